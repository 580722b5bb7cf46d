package ladder_test

import (
	"math"
	"slices"
	"strconv"
	"strings"
	"testing"

	"ballast/api"
	"ballast/ladder"
	"ballast/res"
	"ballast/trial"
)

const (
	longest = "abcdefghijkl"
	most    = math.MaxInt64
)

func rung(up int64, count int, permille int64) ladder.Rung {
	return ladder.Rung{Up: up, Count: count, Permille: permille}
}

func amount(name string, n int64) res.Amount { return res.Amount{Name: name, N: n} }

// whole: a Ladder that has all parts, its lists with more than one item.
func whole() ladder.Ladder {
	return ladder.Ladder{
		What:  "cpu",
		Unit:  res.Vec{amount("cpu", 10), amount("mem", 3)},
		Rungs: []ladder.Rung{rung(8, 2, 1000), rung(16, 5, 500), rung(32, 0, 2500)},
		Min:   1,
		Max:   4,
	}
}

const wholeText = "cpu cpu=10,mem=3 1/4 8:2:1000 16:5:500 32:0:2500"

// changed: another one than whole, by that change alone.
func changed(change func(l *ladder.Ladder)) ladder.Ladder {
	l := whole()
	change(&l)
	return l
}

func withRungs(rungs ...ladder.Rung) ladder.Ladder {
	return changed(func(l *ladder.Ladder) { l.Rungs = rungs })
}

// risingRungs: that many that may be.
func risingRungs(count int) []ladder.Rung {
	var l []ladder.Rung
	for i := range count {
		l = append(l, rung(int64(i), 1, 1))
	}
	return l
}

func same(a, b ladder.Ladder) bool {
	return a.What == b.What && res.Same(a.Unit, b.Unit) && slices.Equal(a.Rungs, b.Rungs) && a.Min == b.Min && a.Max == b.Max
}

func isZero(l ladder.Ladder) bool {
	return same(l, ladder.Ladder{}) && l.Unit == nil && l.Rungs == nil
}

func checks(t *testing.T, want api.Errno, l ...ladder.Ladder) {
	t.Helper()
	for _, x := range l {
		if e := ladder.Check(x); e != want {
			t.Errorf("Check(%.300q): %v; want %v", ladder.Text(x), e, want)
		}
	}
}

// read: the text of a sound Ladder.
func read(t *testing.T, text string) ladder.Ladder {
	t.Helper()
	l, e := ladder.Parse(text)
	if e != api.OK {
		t.Fatalf("Parse(%q): %v", text, e)
	}
	return l
}

func vec(t *testing.T, text string) res.Vec {
	t.Helper()
	v, e := res.Parse(text)
	if e != api.OK {
		t.Fatalf("res.Parse(%q): %v", text, e)
	}
	return v
}

func TestP1601Check(t *testing.T) {
	checks(t, api.OK,
		whole(),
		ladder.Ladder{What: "a"},
		ladder.Ladder{What: "0", Unit: res.Vec{}, Rungs: []ladder.Rung{}},
		ladder.Ladder{What: longest, Unit: trial.Amounts("a", 8), Rungs: risingRungs(8), Max: 128},
		// What may be a name that Unit has not
		changed(func(l *ladder.Ladder) { l.What = "gpu" }))
	for _, bad := range slices.Concat(trial.NotNames(), trial.Spaced(), []string{"", "-"}) {
		checks(t, api.ErrName, ladder.Ladder{What: bad}, changed(func(l *ladder.Ladder) { l.What = bad }))
	}
}

func TestP1601CheckUnit(t *testing.T) {
	for want, units := range map[api.Errno][]res.Vec{
		api.OK:       {nil, {}, {amount("a", 1)}, {amount("a", most), amount("b", most)}, trial.Amounts("a", 8)},
		api.ErrLong:  {trial.Amounts("a", 9), make(res.Vec, 9)},
		api.ErrName:  {{{}}, {amount("A", 1)}, {amount("a", 1), amount("", 1)}},
		api.ErrArg:   {{amount("a", 0)}, {amount("a", -1)}, {amount("a", 0), {}}},
		api.ErrOrder: {{amount("b", 1), amount("a", 1)}, {amount("a", 1), amount("a", 1)}},
	} {
		for _, unit := range units {
			checks(t, want, ladder.Ladder{What: "a", Unit: unit}, changed(func(l *ladder.Ladder) { l.Unit = unit }))
		}
	}
}

func TestP1601CheckMinAndMax(t *testing.T) {
	for _, c := range []struct {
		min, max int
		want     api.Errno
	}{
		{0, 0, api.OK}, {0, 1, api.OK}, {1, 1, api.OK}, {0, 128, api.OK}, {127, 128, api.OK}, {128, 128, api.OK}, {5, 127, api.OK},
		{-1, 0, api.ErrArg}, {-1, 128, api.ErrArg}, {-2, -1, api.ErrArg}, {-1, -1, api.ErrArg}, {math.MinInt, 5, api.ErrArg}, {math.MinInt, math.MinInt, api.ErrArg},
		{1, 0, api.ErrArg}, {5, 4, api.ErrArg}, {128, 127, api.ErrArg}, {0, -1, api.ErrArg}, {128, 0, api.ErrArg},
		{0, 129, api.ErrArg}, {128, 129, api.ErrArg}, {129, 129, api.ErrArg}, {129, 128, api.ErrArg}, {0, math.MaxInt, api.ErrArg}, {math.MaxInt, math.MaxInt, api.ErrArg},
	} {
		checks(t, c.want, ladder.Ladder{What: "a", Min: c.min, Max: c.max}, changed(func(l *ladder.Ladder) { l.Min, l.Max = c.min, c.max }))
	}
}

func TestP1601CheckRungs(t *testing.T) {
	checks(t, api.OK, withRungs(), withRungs(risingRungs(7)...), withRungs(risingRungs(8)...),
		withRungs(rung(0, 0, 0)), withRungs(rung(most, 128, 1000000)), withRungs(rung(0, 1, 1), rung(1, 1, 1), rung(most, 0, 0)),
		// 10 is behind 9, though its text is not
		withRungs(rung(9, 1, 1), rung(10, 1, 1)),
		// Count and Permille need not rise, nor be between Min and Max
		withRungs(rung(1, 9, 9), rung(2, 3, 3), rung(3, 0, 5)))
	checks(t, api.ErrLong, withRungs(risingRungs(9)...), withRungs(risingRungs(1000)...), withRungs(make([]ladder.Rung, 9)...), withRungs(slices.Repeat([]ladder.Rung{rung(-1, -1, -1)}, 9)...))
	for _, bad := range badRungs() {
		checks(t, api.ErrArg, withRungs(bad), withRungs(bad, rung(9, 1, 1)), withRungs(append(risingRungs(7), bad)...))
	}
	checks(t, api.ErrOrder, withRungs(rung(5, 1, 1), rung(5, 1, 1)), withRungs(rung(5, 1, 1), rung(5, 9, 9)), withRungs(rung(5, 1, 1), rung(4, 1, 1)),
		withRungs(rung(10, 1, 1), rung(9, 1, 1)), withRungs(rung(most, 1, 1), rung(0, 1, 1)), withRungs(append(risingRungs(7), rung(6, 1, 1))...), withRungs(rung(1, 1, 1), rung(5, 1, 1), rung(3, 1, 1)))
}

func badRungs() []ladder.Rung {
	return []ladder.Rung{
		rung(-1, 1, 1), rung(math.MinInt64, 1, 1),
		rung(50, -1, 1), rung(50, math.MinInt, 1), rung(50, 129, 1), rung(50, math.MaxInt, 1),
		rung(50, 1, -1), rung(50, 1, math.MinInt64), rung(50, 1, 1000001), rung(50, 1, most),
		rung(-1, 129, -1),
	}
}

// Rung by Rung: what is wrong with one is told ahead of its order, and of all that is behind it.
func TestP1601CheckTellsTheFirstRung(t *testing.T) {
	checks(t, api.ErrArg, withRungs(rung(5, 1, 1), rung(-1, 1, 1)), withRungs(rung(5, 1, 1), rung(5, 1, -1)), withRungs(rung(5, 1, 1), rung(4, 129, 1), rung(3, 1, 1)), withRungs(rung(5, -1, 1), rung(4, 1, 1)))
	checks(t, api.ErrOrder, withRungs(rung(5, 1, 1), rung(4, 1, 1), rung(9, 1, -1)), withRungs(rung(5, 1, 1), rung(5, 1, 1), rung(-1, 1, 1)))
}

// faults, in the order in which Check asks for them.
func faults() [][]trial.Fault[ladder.Ladder] {
	return [][]trial.Fault[ladder.Ladder]{
		{
			trial.Spoilt(api.ErrName, func(l *ladder.Ladder) { l.What = "" }),
			trial.Spoilt(api.ErrName, func(l *ladder.Ladder) { l.What = "CPU" }),
		},
		{
			trial.Spoilt(api.ErrLong, func(l *ladder.Ladder) { l.Unit = trial.Amounts("a", 9) }),
			trial.Spoilt(api.ErrName, func(l *ladder.Ladder) { l.Unit = res.Vec{amount("A", 1)} }),
			trial.Spoilt(api.ErrArg, func(l *ladder.Ladder) { l.Unit = res.Vec{amount("a", 0)} }),
			trial.Spoilt(api.ErrOrder, func(l *ladder.Ladder) { l.Unit = res.Vec{amount("b", 1), amount("a", 1)} }),
		},
		{
			trial.Spoilt(api.ErrArg, func(l *ladder.Ladder) { l.Min = -1 }),
			trial.Spoilt(api.ErrArg, func(l *ladder.Ladder) { l.Max = 0 }),
			trial.Spoilt(api.ErrArg, func(l *ladder.Ladder) { l.Max = 129 }),
		},
		{
			trial.Spoilt(api.ErrLong, func(l *ladder.Ladder) { l.Rungs = risingRungs(9) }),
		},
		{
			trial.Spoilt(api.ErrArg, func(l *ladder.Ladder) { l.Rungs = []ladder.Rung{rung(-1, 1, 1)} }),
			trial.Spoilt(api.ErrArg, func(l *ladder.Ladder) { l.Rungs = []ladder.Rung{rung(1, 129, 1)} }),
			trial.Spoilt(api.ErrOrder, func(l *ladder.Ladder) { l.Rungs = []ladder.Rung{rung(1, 1, 1), rung(1, 1, 1)} }),
		},
	}
}

func TestP1601CheckTellsTheFirstError(t *testing.T) {
	for l, want := range trial.Faulty(whole, faults()) {
		checks(t, want, l)
	}
}

func finds(t *testing.T, l ladder.Ladder, total res.Vec, want ladder.Rung) {
	t.Helper()
	if r, there := ladder.At(l, total); r != want || !there {
		t.Errorf("At(%q, %q): %v %t; want %v", ladder.Text(l), res.Text(total), r, there, want)
	}
}

func TestP1601At(t *testing.T) {
	l := whole()
	for total, at := range map[string]int{
		"-": 0, "cpu=1": 0, "cpu=7": 0, "cpu=8": 0,
		"cpu=9": 1, "cpu=15": 1, "cpu=16": 1,
		"cpu=17": 2, "cpu=31": 2, "cpu=32": 2,
		// above all: the last
		"cpu=33": 2, "cpu=9223372036854775807": 2,
		// it is What that counts, whatever else there is
		"mem=99": 0, "aaa=99,cpu=9,mem=99": 1, "cpus=99": 0, "cp=99,cpu=17": 2,
	} {
		finds(t, l, vec(t, total), l.Rungs[at])
	}
	finds(t, l, res.Vec{}, l.Rungs[0])
	l.What = "mem"
	finds(t, l, vec(t, "cpu=99,mem=9"), l.Rungs[1])
}

func TestP1601AtOfOneRung(t *testing.T) {
	for _, up := range []int64{0, 1, 5, most} {
		l := withRungs(rung(up, 7, 70))
		for _, total := range []string{"-", "cpu=1", "cpu=5", "cpu=6", "cpu=9223372036854775807"} {
			finds(t, l, vec(t, total), rung(up, 7, 70))
		}
	}
	// a Rung of 0 is for a total without What alone
	l := withRungs(rung(0, 1, 1), rung(5, 2, 2))
	finds(t, l, nil, l.Rungs[0])
	finds(t, l, vec(t, "cpu=1"), l.Rungs[1])
}

// A Rung that is zero is one; a false is told beside a zero one.
func TestP1601AtWithoutRungs(t *testing.T) {
	finds(t, withRungs(rung(0, 0, 0)), nil, rung(0, 0, 0))
	for _, rungs := range [][]ladder.Rung{nil, {}} {
		for _, total := range []string{"-", "cpu=9"} {
			if r, there := ladder.At(withRungs(rungs...), vec(t, total)); there || r != rung(0, 0, 0) {
				t.Errorf("At of none: %v %t", r, there)
			}
		}
	}
}

// wants: so many, each with that Need.
func wants(t *testing.T, l ladder.Ladder, total string, count int, need string) {
	t.Helper()
	n, v, e := ladder.Want(l, vec(t, total))
	if n != count || res.Text(v) != need || e != api.OK {
		t.Errorf("Want(%q, %q): %d %q %v; want %d %q", ladder.Text(l), total, n, res.Text(v), e, count, need)
	}
}

func TestP1601Want(t *testing.T) {
	for total, want := range map[string]struct {
		count int
		need  string
	}{
		"-":                       {2, "cpu=10,mem=3"},
		"cpu=8":                   {2, "cpu=10,mem=3"},
		"cpu=9":                   {4, "cpu=5,mem=1"},
		"cpu=16":                  {4, "cpu=5,mem=1"},
		"cpu=17":                  {1, "cpu=25,mem=7"},
		"cpu=9223372036854775807": {1, "cpu=25,mem=7"},
		"mem=99":                  {2, "cpu=10,mem=3"},
	} {
		wants(t, whole(), total, want.count, want.need)
	}
}

// Of the Rung's Count there are Min at least, Max at most.
func TestP1601WantIsBetweenMinAndMax(t *testing.T) {
	for _, c := range []struct{ min, count, max, want int }{
		{0, 0, 0, 0}, {0, 1, 0, 0}, {0, 128, 0, 0}, {3, 0, 3, 3}, {3, 9, 3, 3},
		{2, 1, 5, 2}, {2, 2, 5, 2}, {2, 3, 5, 3}, {2, 4, 5, 4}, {2, 5, 5, 5}, {2, 6, 5, 5},
		{0, 128, 128, 128}, {0, 0, 128, 0}, {128, 0, 128, 128}, {0, 128, 127, 127}, {1, 0, 128, 1},
	} {
		l := ladder.Ladder{What: "cpu", Unit: res.Vec{amount("cpu", 4)}, Rungs: []ladder.Rung{rung(9, c.count, 1000)}, Min: c.min, Max: c.max}
		wants(t, l, "cpu=3", c.want, "cpu=4")
		wants(t, l, "cpu=99", c.want, "cpu=4")
	}
}

func TestP1601WantHasAPartOfUnit(t *testing.T) {
	for _, c := range []struct {
		unit     string
		permille int64
		need     string
	}{
		{"a=1,b=1000", 1000, "a=1,b=1000"},
		// what comes to 0 is left out
		{"a=1,b=1000", 999, "b=999"},
		{"a=1,b=1000", 1, "b=1"},
		{"a=1,b=1000", 0, "-"},
		{"a=1", 999, "-"},
		{"a=1,b=1000", 1999, "a=1,b=1999"},
		{"a=1,b=1000", 1000000, "a=1000,b=1000000"},
		{"-", 500, "-"},
		{"a=9223372036854775807", 1000, "a=9223372036854775807"},
		{"a=9223372036854775807", 500, "a=4611686018427387903"},
		{"a=9223372036854775", 1000000, "a=9223372036854775000"},
	} {
		l := ladder.Ladder{What: "cpu", Unit: vec(t, c.unit), Rungs: []ladder.Rung{rung(9, 3, c.permille)}, Max: 5}
		wants(t, l, "-", 3, c.need)
		// a Part of nothing may be wanted, too: that many are
		l.Min = 4
		wants(t, l, "cpu=99", 4, c.need)
	}
}

func TestP1601WantWithoutRungs(t *testing.T) {
	for _, total := range []string{"-", "cpu=9", "cpu=9223372036854775807"} {
		wants(t, withRungs(), total, 1, "cpu=10,mem=3")
		wants(t, withRungs([]ladder.Rung{}...), total, 1, "cpu=10,mem=3")
		wants(t, ladder.Ladder{What: "cpu", Min: 3, Max: 7}, total, 3, "-")
		wants(t, ladder.Ladder{What: "cpu", Unit: vec(t, "a=9223372036854775807"), Max: 128}, total, 0, "a=9223372036854775807")
	}
}

// wantRefused: that error, with zero values beside it.
func wantRefused(t *testing.T, want api.Errno, l ladder.Ladder, totals ...string) {
	t.Helper()
	for _, total := range totals {
		if n, v, e := ladder.Want(l, vec(t, total)); n != 0 || v != nil || e != want {
			t.Errorf("Want(%.300q, %q): %d %v %v; want %v", ladder.Text(l), total, n, v, e, want)
		}
	}
}

func TestP1601WantTellsWhatCheckTells(t *testing.T) {
	for l, want := range trial.Faulty(whole, faults()) {
		wantRefused(t, want, l, "-", "cpu=9", "cpu=99")
	}
	wantRefused(t, api.ErrName, ladder.Ladder{}, "-")
	// ahead of a Part that is too great
	wantRefused(t, api.ErrOrder, changed(func(l *ladder.Ladder) {
		l.Unit, l.Rungs = res.Vec{amount("a", most)}, []ladder.Rung{rung(5, 1, 2000), rung(5, 1, 1)}
	}), "-", "cpu=9")
}

func TestP1601WantIsTooGreat(t *testing.T) {
	for _, unit := range []string{"a=9223372036854775807", "a=9214157878975800008", "a=1,b=9223372036854775807", "a=9223372036854775807,b=1"} {
		l := ladder.Ladder{What: "cpu", Unit: vec(t, unit), Rungs: []ladder.Rung{rung(5, 2, 1000), rung(9, 2, 1001)}, Min: 1, Max: 3}
		wantRefused(t, api.ErrOver, l, "cpu=6", "cpu=9", "cpu=10")
		// it is the Rung that is taken that counts
		wants(t, l, "-", 2, unit)
		wants(t, l, "cpu=5", 2, unit)
	}
	// also where none are wanted
	wantRefused(t, api.ErrOver, ladder.Ladder{What: "cpu", Unit: vec(t, "a=9223372036854775807"), Rungs: []ladder.Rung{rung(0, 0, 1000000)}}, "-", "cpu=1")
}

// The words themselves, over all totals about the Rungs.
func TestP1601WantIsWhatAtTells(t *testing.T) {
	for _, text := range []string{wholeText, "a a=7 2/3 0:1:999 1:2:1 2:3:2000 7:4:0", "b - 0/128 3:128:5 4:0:5", "cpu a=3,cpu=4 0/0 5:9:700"} {
		l := read(t, text)
		for have := range int64(40) {
			total := res.Vec{amount(l.What, have)}
			if have == 0 {
				total = nil
			}
			r, _ := ladder.At(l, total)
			need, _ := res.Part(l.Unit, r.Permille)
			count := r.Count
			if count > l.Max {
				count = l.Max
			}
			if count < l.Min {
				count = l.Min
			}
			wants(t, l, res.Text(total), count, res.Text(need))
		}
	}
}

// ordinary: Ladders by their texts.
func ordinary() map[string]ladder.Ladder {
	return map[string]ladder.Ladder{
		wholeText:           whole(),
		"a - 0/0":           {What: "a"},
		"0 - 0/1":           {What: "0", Max: 1},
		"a a=1 128/128":     {What: "a", Unit: res.Vec{amount("a", 1)}, Min: 128, Max: 128},
		longest + " - 9/10": {What: longest, Min: 9, Max: 10},
		"a - 0/0 0:0:0":     {What: "a", Rungs: []ladder.Rung{rung(0, 0, 0)}},
		"a - 0/0 9223372036854775807:128:1000000": {What: "a", Rungs: []ladder.Rung{rung(most, 128, 1000000)}},
		"mem a=1,b=9223372036854775807 2/9 1:2:3": {What: "mem", Unit: res.Vec{amount("a", 1), amount("b", most)}, Rungs: []ladder.Rung{rung(1, 2, 3)}, Min: 2, Max: 9},
		"a - 0/0 9:1:1 10:1:1":                    {What: "a", Rungs: []ladder.Rung{rung(9, 1, 1), rung(10, 1, 1)}},
		"a a0=1,a1=1,a2=1,a3=1,a4=1,a5=1,a6=1,a7=1 0/5 0:1:1 1:1:1 2:1:1 3:1:1 4:1:1 5:1:1 6:1:1 7:1:1": {What: "a", Unit: trial.Amounts("a", 8), Rungs: risingRungs(8), Max: 5},
	}
}

func TestP1601Text(t *testing.T) {
	for want, l := range ordinary() {
		if text := ladder.Text(l); text != want {
			t.Errorf("Text(%+v): %q; want %q", l, text, want)
		}
	}
	if text := ladder.Text(ladder.Ladder{What: "a", Unit: res.Vec{}, Rungs: []ladder.Rung{}}); text != "a - 0/0" {
		t.Errorf("Text of empty lists: %q", text)
	}
}

func TestP1601ParseReadsWhatTextTells(t *testing.T) {
	for text, want := range ordinary() {
		l, e := ladder.Parse(text)
		if e != api.OK || !same(l, want) || ladder.Text(l) != text || ladder.Check(l) != api.OK {
			t.Errorf("Parse(%q): %+v %v", text, l, e)
		}
	}
	for n := range api.MaxPods + 1 {
		text := "a - " + strconv.Itoa(n) + "/128 5:" + strconv.Itoa(n) + ":7"
		if l, e := ladder.Parse(text); e != api.OK || l.Min != n || l.Rungs[0].Count != n || ladder.Text(l) != text {
			t.Errorf("Parse(%q): %+v %v", text, l, e)
		}
	}
}

// refused: each text is refused with that error, and a zero Ladder is beside it.
func refused(t *testing.T, want api.Errno, texts ...string) {
	t.Helper()
	for _, text := range texts {
		if l, e := ladder.Parse(text); e != want || !isZero(l) {
			t.Errorf("Parse(%.200q): %+v %v; want %v", text, l, e, want)
		}
	}
}

// with: the text of a Ladder that is sound, one of its words another.
func with(at int, word string) string { return trial.With(wholeText, at, word) }

func TestP1601ParseRefusesForms(t *testing.T) {
	refused(t, api.ErrForm,
		// fewer than three words
		"", "a", "-", "0/0", "a -", "a 0/0", "- 0/0", " ", "a ", " -",
		// two blanks together, at the front, at the end
		"a  - 0/0", "a -  0/0", "a - 0/0 ", " a - 0/0", "a - 0/0  ", "a - 0/0  1:1:1", "a - 0/0 1:1:1 ", "a - 0/0 1:1:1  2:1:1", "  ", "   ", "a  0/0",
		// another blank between
		"a\t-\t0/0", "a\t- 0/0", "a -\t0/0", "a - 0/0\t1:1:1", "a\n-\n0/0", "a - 0/0\n", "a - 0/0 1:1:1\n", "a - 0/0 1:1:1,2:1:1", "a\u00a0-\u00a00/0",
		// words in another order, one too few or too many
		"a 0/0 -", "- a 0/0 -", "a 0/0 1:1:1", "a - 1:1:1", "a - 1:1:1 0/0", "a - 0/0 0/0", "a - 0/0 -", "a - 0/0 1:1:1 -",
		strings.Repeat("a ", 1000), strings.Repeat(" ", 1<<20), wholeText+" "+wholeText)
}

func TestP1601ParseRefusesLimits(t *testing.T) {
	for _, word := range []string{"", "-", "0", "/", "//", "0/", "/0", "0//0", "0/1/2", "0/1/", "/0/1", "00/1", "0/01", "01/1", "-1/1", "0/-1", "+0/1", "0/+1", "a/1", "0/a", "0:1", "0,1", "0/1,", "0.0/1", "0x0/1", "1e0/1", "1_0/10", "１/1", "0/１", "0/1\t", strings.Repeat("0", 1000) + "/1", strings.Repeat("/", 1<<20)} {
		refused(t, api.ErrForm, "a - "+word, with(2, word), "a - "+word+" 1:1:1")
	}
}

func TestP1601ParseRefusesRungs(t *testing.T) {
	for _, word := range []string{"", "-", "1", "1:2", ":", "::", ":::", "1:2:", ":2:3", "1::3", "1:2:3:4", "1:2:3:", ":1:2:3", "01:2:3", "1:02:3", "1:2:03", "00:2:3", "-1:2:3", "1:-2:3", "1:2:-3", "+1:2:3", "1:2:+3", "x:2:3", "1:x:3", "1:2:x", "1/2/3", "1:2/3", "1,2,3", "1:2:3,", "1:2:3\t", "1.0:2:3", "0x1:2:3", "1e1:2:3", "1:１:3", strings.Repeat(":", 1<<20)} {
		refused(t, api.ErrForm, "a - 0/0 "+word, "a - 0/0 0:0:0 "+word, "a - 0/0 "+word+" 0:0:0", with(3, word), with(4, word), with(5, word))
		// behind more Rungs than may be, too
		refused(t, api.ErrForm, "a - 0/0"+strings.Repeat(" 1:1:1", 100)+" "+word)
	}
}

const tooGreat = "9223372036854775808"

func TestP1601ParseRefusesGreatNumbers(t *testing.T) {
	for _, great := range []string{tooGreat, "18446744073709551616", "18446744073709551617", strings.Repeat("9", 1000)} {
		for _, word := range []string{"0/" + great, great + "/1", great + "/" + great} {
			refused(t, api.ErrOver, "a - "+word, with(2, word))
		}
		for _, word := range []string{great + ":1:1", "1:" + great + ":1", "1:1:" + great} {
			refused(t, api.ErrOver, "a - 0/0 "+word, with(3, word), with(4, word), with(5, word), "a - 0/0"+strings.Repeat(" 1:1:1", 100)+" "+word)
		}
	}
	// what is no more than 2^63 - 1 is Check's to tell
	for _, great := range []string{"129", "4294967296", "4294967297", "9223372036854775807"} {
		refused(t, api.ErrArg, "a - 0/"+great, "a - "+great+"/"+great, "a - "+great+"/1", "a - 0/0 1:"+great+":1")
	}
	refused(t, api.ErrArg, "a - 0/0 1:1:1000001", "a - 0/0 1:1:9223372036854775807")
}

func TestP1601ParseRefusesUnits(t *testing.T) {
	for want, words := range map[api.Errno][]string{
		api.ErrForm:  {"", "a", "a=", "a=1,", ",", "a=01", "a=-1", "a=1=1", "-,a=1", "--", "0/0"},
		api.ErrOver:  {"a=" + tooGreat, "b=1,a=" + tooGreat, "A=" + tooGreat},
		api.ErrLong:  {res.Text(trial.Amounts("a", 9))},
		api.ErrName:  {"A=1", "=1", "a=1,B=1", longest + "m=1"},
		api.ErrArg:   {"a=0", "a=1,b=0"},
		api.ErrOrder: {"b=1,a=1", "a=1,a=1"},
	} {
		for _, word := range words {
			refused(t, want, "a "+word+" 0/0", with(1, word), "a "+word+" 0/0 1:1:1")
		}
	}
}

func TestP1601ParseRefusesWhatCheckRefuses(t *testing.T) {
	for _, bad := range append(trial.NotNames(), "-", "") {
		refused(t, api.ErrName, bad+" - 0/0", with(0, bad))
	}
	refused(t, api.ErrArg, "a - 1/0", "a - 128/127", "a - 0/129", with(2, "5/4"))
	refused(t, api.ErrLong, "a - 0/0"+strings.Repeat(" 1:1:1", 9), "a - 0/0"+strings.Repeat(" 1:1:1", 100), "a - 0/0"+strings.Repeat(" 1:129:1", 9))
	refused(t, api.ErrOrder, "a - 0/0 5:1:1 5:1:1", "a - 0/0 5:1:1 4:1:1", "a - 0/0 10:1:1 9:1:1", with(4, "8:5:500"))
	// one list of them is told Rung by Rung
	refused(t, api.ErrOrder, "a - 0/0 5:1:1 4:1:1 9:129:1")
	refused(t, api.ErrArg, "a - 0/0 5:1:1 4:129:1")
}

// wrongWords, in the order in which Parse asks for them: forms of numbers, numbers that are too great, the unit's word, then what Check asks for; those of one group are told alike ahead of the groups behind.
func wrongWords() [][]trial.Word {
	wrong := trial.Wrong
	return [][]trial.Word{
		{wrong(2, "01/4", api.ErrForm), wrong(2, "1", api.ErrForm), wrong(3, "8:2", api.ErrForm), wrong(5, "32:0:x", api.ErrForm), wrong(5, "", api.ErrForm), wrong(5, "1:1:"+tooGreat+":1", api.ErrForm)},
		{wrong(2, "1/"+tooGreat, api.ErrOver), wrong(2, tooGreat+"/0", api.ErrOver), wrong(3, tooGreat+":1:1", api.ErrOver), wrong(4, "16:"+tooGreat+":1", api.ErrOver), wrong(5, "32:1:"+tooGreat, api.ErrOver)},
		{wrong(1, "x", api.ErrForm), wrong(1, "", api.ErrForm), wrong(1, "a="+tooGreat, api.ErrOver), wrong(1, "A=1", api.ErrName), wrong(1, "a=0", api.ErrArg), wrong(1, "b=1,a=1", api.ErrOrder), wrong(1, res.Text(trial.Amounts("a", 9)), api.ErrLong)},
		{wrong(0, "CPU", api.ErrName), wrong(0, "", api.ErrName)},
		{wrong(2, "5/4", api.ErrArg), wrong(2, "0/129", api.ErrArg)},
		{wrong(5, "32:0:2500"+strings.Repeat(" 33:1:1", 6), api.ErrLong)},
		{wrong(3, "8:129:1000", api.ErrArg), wrong(3, "8:2:1000001", api.ErrArg)},
		{wrong(4, "8:5:500", api.ErrOrder), wrong(4, "16:129:500", api.ErrArg)},
		{wrong(5, "16:0:2500", api.ErrOrder)},
	}
}

func TestP1601ParseTellsTheFirstError(t *testing.T) {
	for text, want := range trial.WrongTexts(wholeText, wrongWords()) {
		refused(t, want, text)
	}
}

// Texts of the signs that matter: each is read as it is written, or refused, with no panic.
func TestP1601WhatIsReadIsToldJustSoWritten(t *testing.T) {
	for text := range trial.Texts("aB01:/=- ", 5) {
		checkBack(t, text)
		checkBack(t, text+" - 0/0")
		checkBack(t, "a "+text+" 0/0")
		checkBack(t, "a - "+text)
		checkBack(t, "a - 0/0 "+text)
	}
}

func checkBack(t *testing.T, text string) {
	t.Helper()
	l, e := ladder.Parse(text)
	if e == api.OK && (ladder.Text(l) != text || ladder.Check(l) != api.OK) || e != api.OK && !isZero(l) {
		t.Errorf("Parse(%q): %+v %v", text, l, e)
	}
	if strings.Count(text, " ") < 2 && e != api.ErrForm {
		t.Errorf("Parse(%q): %v", text, e)
	}
}

// roomy: a Ladder the lists of which have spare room; told with all that is in it.
func roomy() ladder.Ladder {
	return changed(func(l *ladder.Ladder) {
		l.Unit = trial.WithRoom(l.Unit, amount("spare", 1))
		l.Rungs = trial.WithRoom(l.Rungs, rung(64, 1, 1))
	})
}

func toldWithSpare(l ladder.Ladder) string {
	l.Unit, l.Rungs = l.Unit[:cap(l.Unit)], l.Rungs[:cap(l.Rungs)]
	return ladder.Text(l)
}

func TestP2NothingHandedInIsChanged(t *testing.T) {
	before := toldWithSpare(roomy())
	for _, have := range []int64{1, 9, 17, 99} {
		l := roomy()
		total := trial.WithRoom(res.Vec{amount("cpu", have)}, amount("spare", 1))
		was := slices.Clone(total[:cap(total)])
		ladder.Check(l)
		ladder.At(l, total)
		ladder.Want(l, total)
		ladder.Text(l)
		if toldWithSpare(l) != before || !slices.Equal(total[:cap(total)], was) {
			t.Errorf("%q became %q, %v became %v", before, toldWithSpare(l), was, total[:cap(total)])
		}
		l.Rungs = l.Rungs[:0]
		ladder.Want(l, total)
		if toldWithSpare(l) != before {
			t.Errorf("%q became %q", before, toldWithSpare(l))
		}
	}
}

// What is answered is written over, its spare room too: neither the Ladder nor a later answer tells of it.
func TestP2AnswersNewMemory(t *testing.T) {
	before := toldWithSpare(roomy())
	for _, change := range []func(l *ladder.Ladder){
		func(*ladder.Ladder) {},
		func(l *ladder.Ladder) { l.Rungs = l.Rungs[:0] },
	} {
		l := roomy()
		change(&l)
		_, need, _ := ladder.Want(l, nil)
		trial.Overwrite(need, amount("mine", 7))
		if toldWithSpare(l) != before {
			t.Errorf("%q became %q", before, toldWithSpare(l))
		}
		if _, again, _ := ladder.Want(l, nil); res.Text(again) != "cpu=10,mem=3" {
			t.Errorf("Want answered one list twice: %q", res.Text(again))
		}
	}
	for text, want := range ordinary() {
		l := read(t, text)
		trial.Overwrite(l.Unit, amount("mine", 7))
		trial.Overwrite(l.Rungs, rung(7, 7, 7))
		if !same(read(t, text), want) {
			t.Errorf("Parse(%q) answered one list twice", text)
		}
	}
}

// What was answered stays as it is when what was handed in changes.
func TestP2NothingHandedInIsKept(t *testing.T) {
	for _, rungs := range [][]ladder.Rung{nil, {rung(8, 1, 1000)}} {
		l := roomy()
		l.Rungs = rungs
		_, need, _ := ladder.Want(l, nil)
		trial.Overwrite(l.Unit, amount("mine", 7))
		if res.Text(need) != "cpu=10,mem=3" {
			t.Errorf("Want's became %q", res.Text(need))
		}
	}
}

func TestP3SameCallsAnswerTheSame(t *testing.T) {
	for range 3 {
		refused(t, api.ErrForm, "a - x")
		refused(t, api.ErrName, "A - 0/0")
		if l := read(t, wholeText); !same(l, whole()) {
			t.Errorf("Parse: %+v", l)
		}
		checks(t, api.OK, whole())
		checks(t, api.ErrName, ladder.Ladder{})
		finds(t, whole(), vec(t, "cpu=9"), rung(16, 5, 500))
		wants(t, whole(), "cpu=9", 4, "cpu=5,mem=1")
		wantRefused(t, api.ErrName, ladder.Ladder{}, "-")
	}
}

// wild: plain data that may be given, whatever Check says of it.
func wild() []ladder.Ladder {
	return []ladder.Ladder{
		{},
		{What: "\xff \x00", Unit: res.Vec{{Name: "\xff", N: math.MinInt64}, {}}, Rungs: []ladder.Rung{rung(math.MinInt64, math.MinInt, math.MinInt64), {}}, Min: math.MinInt, Max: math.MaxInt},
		{What: strings.Repeat(" ", 1000), Unit: make(res.Vec, 1000), Rungs: make([]ladder.Rung, 1000), Min: math.MaxInt, Max: math.MinInt},
		withRungs(rung(most, math.MaxInt, most), rung(math.MinInt64, math.MinInt, math.MinInt64)),
		whole(),
	}
}

// Whatever plain data is given, no call goes out by a panic, also where Check refuses what others are handed.
func TestP1EveryCallEnds(t *testing.T) {
	totals := []res.Vec{nil, {}, {{}}, make(res.Vec, 1000), {amount("cpu", math.MinInt64)}, {amount("cpu", most), amount("cpu", -1)}, {amount("\xff \x00", 5)}}
	for _, l := range wild() {
		ladder.Check(l)
		ladder.Parse(ladder.Text(l))
		for _, total := range totals {
			ladder.At(l, total)
			ladder.Want(l, total)
		}
	}
	for _, text := range []string{"\xff", "  ", "\x00 \x00 \x00 \x00", "/ / / /", ": : : :", "- - - -", strings.Repeat("a", 1<<20) + " - 0/0", "a " + strings.Repeat(",", 1<<20) + " 0/0", "a - " + strings.Repeat("1", 1<<20) + "/1", "a - 0/0" + strings.Repeat(" 1:1:1", 1<<16), "a - 0/0" + strings.Repeat(" ", 1<<20)} {
		ladder.Parse(text)
	}
}
