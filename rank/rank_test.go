package rank_test

import (
	"math"
	"slices"
	"testing"

	"ballast/rank"
	"ballast/trial"
)

// edges: scores of which each is behind the ones ahead of it.
func edges() []float64 {
	return []float64{math.Inf(-1), -math.MaxFloat64, -1, math.Copysign(0, -1), 0, math.SmallestNonzeroFloat64, 0.5, 1, math.MaxFloat64, math.Inf(1), math.NaN()}
}

// edged: a mark of each of the edges, with names that fall.
func edged() []rank.Mark {
	var l []rank.Mark
	for i, score := range edges() {
		l = append(l, rank.Mark{Name: string(rune('z' - i)), Score: score})
	}
	return l
}

func namesOf(l []rank.Mark) []string {
	var names []string
	for _, m := range l {
		names = append(names, m.Name)
	}
	return names
}

func isRanked(t *testing.T, l []rank.Mark, pack bool, want ...string) {
	t.Helper()
	// turned round, and from each place on: where it stands by now does not bear on it
	for i := range len(l) + 1 {
		turned := slices.Concat(l[i:], l[:i])
		for range 2 {
			if names := rank.Names(turned, pack); !slices.Equal(names, want) {
				t.Errorf("Names(%v, %t): %q; want %q", turned, pack, names, want)
			}
			slices.Reverse(turned)
		}
	}
}

func TestScoresWithTheirEdges(t *testing.T) {
	rising := namesOf(edged())
	isRanked(t, edged(), false, rising...)
	slices.Reverse(rising)
	isRanked(t, edged(), true, rising...)
	// of each two of them, too
	for i, first := range edged() {
		for _, second := range edged()[i+1:] {
			two := []rank.Mark{first, second}
			isRanked(t, two, false, first.Name, second.Name)
			isRanked(t, two, true, second.Name, first.Name)
		}
	}
}

func TestScoresThatAreAlikeGoByName(t *testing.T) {
	for _, score := range edges() {
		l := []rank.Mark{{Name: "b", Score: score}, {Name: "10", Score: score}, {Name: "aa", Score: score}, {Name: "a", Score: score}, {Name: "9", Score: score}}
		isRanked(t, l, false, "10", "9", "a", "aa", "b")
		isRanked(t, l, true, "10", "9", "a", "aa", "b")
	}
	// all that are no number are alike, whatever their bits are
	l := []rank.Mark{{Name: "c", Score: math.NaN()}, {Name: "a", Score: -math.NaN()}, {Name: "b", Score: math.Float64frombits(0x7FF8000000000007)}}
	isRanked(t, l, false, "a", "b", "c")
	isRanked(t, l, true, "a", "b", "c")
}

func TestFewerSoftAheadOfAnyScore(t *testing.T) {
	for _, few := range edges() {
		for _, many := range edges() {
			l := []rank.Mark{{Name: "z", Soft: 1, Score: few}, {Name: "a", Soft: 2, Score: many}, {Name: "b", Soft: 10, Score: few}}
			isRanked(t, l, false, "z", "a", "b")
			isRanked(t, l, true, "z", "a", "b")
		}
	}
}

func TestNone(t *testing.T) {
	for _, l := range [][]rank.Mark{nil, {}} {
		if names := rank.Names(l, true); len(names) != 0 {
			t.Errorf("%q", names)
		}
	}
}

// same: alike, what is no number too.
func same(a, b rank.Mark) bool {
	return a.Name == b.Name && a.Soft == b.Soft && math.Float64bits(a.Score) == math.Float64bits(b.Score)
}

func TestP2(t *testing.T) {
	l := trial.WithRoom(edged(), rank.Mark{Name: "spare", Score: 2})
	whole := l[:cap(l)]
	before := slices.Clone(whole)
	names := rank.Names(l, true)
	trial.Overwrite(rank.Names(l, true), "mine")
	if !slices.EqualFunc(whole, before, same) {
		t.Errorf("%v became %v", before, whole)
	}
	trial.Overwrite(l, rank.Mark{Name: "mine"})
	want := namesOf(edged())
	slices.Reverse(want)
	if !slices.Equal(names, want) {
		t.Errorf("%q; want %q", names, want)
	}
}
