package ratio_test

import (
	"math"
	"math/big"
	"slices"
	"testing"

	"ballast/ratio"
)

const (
	tiny   = math.SmallestNonzeroFloat64
	normal = 0x1p-1022
	huge   = math.MaxFloat64
)

func nan() float64   { return math.NaN() }
func inf() float64   { return math.Inf(1) }
func down() float64  { return math.Inf(-1) }
func minus() float64 { return math.Copysign(0, -1) }

// nanOf: a NaN that is told from others by its bits alone.
func nanOf(mark uint64) float64 { return math.Float64frombits(0x7FF8000000000000 | mark) }

func nans() []float64 {
	return []float64{
		math.NaN(), -math.NaN(), nanOf(0), nanOf(7), nanOf(1<<51 - 1),
		math.Float64frombits(0x7FF0000000000001), math.Float64frombits(0xFFF0000000000001), math.Float64frombits(0xFFFFFFFFFFFFFFFF),
	}
}

// ranked: numbers of which each is behind the ones ahead of it, as P301 orders them.
func ranked() []float64 {
	return []float64{
		down(), -huge, -1 << 53, -3, -1.5, -1, -normal, -2 * tiny, -tiny, minus(),
		0, tiny, 2 * tiny, normal, 1, 1.5, 3, 1 << 53, huge, inf(), nan(),
	}
}

// same: alike by their bits, or both NaN.
func same(x, y float64) bool {
	return math.Float64bits(x) == math.Float64bits(y) || math.IsNaN(x) && math.IsNaN(y)
}

func bitsOf(l []float64) []uint64 {
	var b []uint64
	for _, x := range l {
		b = append(b, math.Float64bits(x))
	}
	return b
}

func sameBits(l, m []float64) bool { return slices.Equal(bitsOf(l), bitsOf(m)) }

// mixed: count places below limit, always the same ones, in no order.
func mixed(count, limit int) []int {
	var l []int
	n := uint64(88172645463325252)
	for range count {
		n ^= n << 13
		n ^= n >> 7
		n ^= n << 17
		l = append(l, int(n%uint64(limit)))
	}
	return l
}

func TestP301OfOrdinaryNumbers(t *testing.T) {
	for _, c := range []struct {
		a, b int64
		want float64
	}{
		{1, 2, 0.5}, {-3, 2, -1.5}, {3, -2, -1.5}, {-3, -2, 1.5}, {7, 7, 1}, {1, 3, 1.0 / 3}, {2500, 4000, 0.625},
		{1<<53 + 1, 1, 1 << 53}, {1<<53 + 1, 1<<53 + 1, 1}, {1<<53 + 3, 1, 1<<53 + 4}, {1, 1<<53 + 1, 0x1p-53},
		{math.MaxInt64, 1, 0x1p63}, {math.MinInt64, 1, -0x1p63}, {math.MinInt64, -1, 0x1p63},
		{math.MaxInt64, math.MinInt64, -1}, {math.MinInt64, math.MinInt64, 1}, {1, math.MinInt64, -0x1p-63},
	} {
		if got := ratio.Of(c.a, c.b); !same(got, c.want) {
			t.Errorf("Of(%d, %d): %v; want %v", c.a, c.b, got, c.want)
		}
	}
}

// Both numbers are rounded to a float64 before they are divided, and the quotient once more.
func TestP301OfRoundsBothAndTheQuotient(t *testing.T) {
	l := []int64{
		1, 2, 3, 7, 10, 999, 1000, 1001, 1<<31 - 1, 1 << 31, 1<<53 - 1, 1 << 53, 1<<53 + 1, 1<<53 + 2, 1<<53 + 3,
		1<<54 + 2, 1<<54 + 6, 1<<62 - 1, 1 << 62, 1<<62 + 1, 1234567890123456789, math.MaxInt64 - 511, math.MaxInt64 - 512, math.MaxInt64,
	}
	rounded := func(n int64) *big.Float { return new(big.Float).SetPrec(53).SetInt64(n) }
	for _, a := range l {
		for _, b := range l {
			for _, p := range [][2]int64{{a, b}, {-a, b}, {a, -b}, {-a, -b}} {
				want, _ := new(big.Float).SetPrec(53).Quo(rounded(p[0]), rounded(p[1])).Float64()
				if got := ratio.Of(p[0], p[1]); !same(got, want) {
					t.Errorf("Of(%d, %d): %v; want %v", p[0], p[1], got, want)
				}
			}
		}
	}
}

func TestP301OfNoughts(t *testing.T) {
	for _, c := range []struct {
		a, b int64
		want float64
	}{
		{1, 0, inf()}, {5, 0, inf()}, {math.MaxInt64, 0, inf()},
		{-1, 0, down()}, {-5, 0, down()}, {math.MinInt64, 0, down()},
		{0, 0, nan()},
		{0, 1, 0}, {0, 5, 0}, {0, math.MaxInt64, 0},
		{0, -1, minus()}, {0, -5, minus()}, {0, math.MinInt64, minus()},
	} {
		if got := ratio.Of(c.a, c.b); !same(got, c.want) {
			t.Errorf("Of(%d, %d): %v; want %v", c.a, c.b, got, c.want)
		}
	}
}

func TestP301Class(t *testing.T) {
	for class, l := range [][]float64{
		{down()},
		{-huge, -1 << 53, -1, -0.5, -normal, -tiny},
		{minus()},
		{0},
		{tiny, normal, 0.5, 1, 1 << 53, huge},
		{inf()},
		nans(),
	} {
		for _, x := range l {
			if got := ratio.Class(x); got != class {
				t.Errorf("Class(%v = %#x): %d; want %d", x, math.Float64bits(x), got, class)
			}
		}
	}
}

func TestP301CompareIsAsRanked(t *testing.T) {
	l := ranked()
	for i, x := range l {
		for k, y := range l {
			want := 0
			if i < k {
				want = -1
			} else if i > k {
				want = 1
			}
			if got := ratio.Compare(x, y); got != want {
				t.Errorf("Compare(%v, %v): %d; want %d", x, y, got, want)
			}
		}
	}
}

func TestP301CompareHoldsAllNaNsForAlike(t *testing.T) {
	for _, x := range nans() {
		for _, y := range nans() {
			if got := ratio.Compare(x, y); got != 0 {
				t.Errorf("Compare(%#x, %#x): %d; want 0", math.Float64bits(x), math.Float64bits(y), got)
			}
		}
		for _, y := range []float64{down(), -huge, minus(), 0, huge, inf()} {
			if ratio.Compare(x, y) != 1 || ratio.Compare(y, x) != -1 {
				t.Errorf("Compare of %#x and %v: %d, turned %d; want 1, -1", math.Float64bits(x), y, ratio.Compare(x, y), ratio.Compare(y, x))
			}
		}
	}
}

func TestP301LeastAndMost(t *testing.T) {
	for _, c := range []struct {
		l           []float64
		least, most float64
	}{
		{nil, nan(), nan()}, {[]float64{}, nan(), nan()},
		{[]float64{7}, 7, 7}, {[]float64{minus()}, minus(), minus()}, {[]float64{nan()}, nan(), nan()}, {[]float64{down()}, down(), down()},
		{[]float64{3, 1, 2}, 1, 3}, {[]float64{1, 2, 3}, 1, 3}, {[]float64{3, 2, 1}, 1, 3}, {[]float64{2, 3, 1, 3, 1}, 1, 3},
		{[]float64{-3, -1, -2}, -3, -1}, {[]float64{tiny, -tiny}, -tiny, tiny},
		{[]float64{0, minus()}, minus(), 0}, {[]float64{minus(), 0}, minus(), 0}, {[]float64{0, minus(), 0, minus()}, minus(), 0},
		{[]float64{nan(), 5}, 5, nan()}, {[]float64{5, nan()}, 5, nan()}, {[]float64{inf(), nan()}, inf(), nan()}, {[]float64{nan(), down()}, down(), nan()},
		{[]float64{inf(), down(), nan()}, down(), nan()}, {[]float64{inf(), 1, down()}, down(), inf()}, {[]float64{huge, inf(), -huge}, -huge, inf()},
	} {
		if got := ratio.Least(c.l); !same(got, c.least) {
			t.Errorf("Least(%v): %v; want %v", c.l, got, c.least)
		}
		if got := ratio.Most(c.l); !same(got, c.most) {
			t.Errorf("Most(%v): %v; want %v", c.l, got, c.most)
		}
	}
}

func TestP301LeastAndMostTakeTheFirstOfThoseAlike(t *testing.T) {
	first, second, third := nanOf(11), nanOf(22), nanOf(33)
	for _, c := range []struct {
		name string
		call func(l []float64) float64
		l    []float64
	}{
		{"Least", ratio.Least, []float64{first, second, third}},
		{"Most", ratio.Most, []float64{first, second, third}},
		{"Most", ratio.Most, []float64{inf(), first, 1, second, down(), third}},
		{"Most", ratio.Most, []float64{first, inf(), second}},
	} {
		if got := c.call(c.l); math.Float64bits(got) != math.Float64bits(first) {
			t.Errorf("%s(%x): %#x; want the first", c.name, bitsOf(c.l), math.Float64bits(got))
		}
	}
}

func TestP301LeastAndMostOfLongRows(t *testing.T) {
	all := ranked()
	for count := 1; count <= 64; count++ {
		places := mixed(count, len(all))
		var l []float64
		for _, p := range places {
			l = append(l, all[p])
		}
		if got, want := ratio.Least(l), all[slices.Min(places)]; !same(got, want) {
			t.Errorf("Least(%v): %v; want %v", l, got, want)
		}
		if got, want := ratio.Most(l), all[slices.Max(places)]; !same(got, want) {
			t.Errorf("Most(%v): %v; want %v", l, got, want)
		}
	}
}

func TestP301Mean(t *testing.T) {
	for _, c := range []struct {
		l    []float64
		want float64
	}{
		{nil, nan()}, {[]float64{}, nan()},
		{[]float64{7}, 7}, {[]float64{1, 2}, 1.5}, {[]float64{1, 0, 0}, 1.0 / 3}, {[]float64{-1, -2, -6}, -3}, {[]float64{1, -1}, 0},
		{[]float64{0.1, 0.2, 0.3}, 0.20000000000000004}, {[]float64{0.3, 0.2, 0.1}, 0.19999999999999998},
		{[]float64{1e16, 1, -1e16}, 0}, {[]float64{1e16, -1e16, 1}, 1.0 / 3},
		{[]float64{1e308, 1e308, -1e308}, inf()}, {[]float64{1e308, -1e308, 1e308}, 1e308 / 3}, {[]float64{-1e308, -1e308, 1e308}, down()},
		{[]float64{tiny, 0}, 0}, {[]float64{tiny, tiny}, tiny}, {[]float64{-tiny, 0}, minus()},
	} {
		if got := ratio.Mean(c.l); !same(got, c.want) {
			t.Errorf("Mean(%v): %v; want %v", c.l, got, c.want)
		}
	}
}

func TestP301MeanOfEdges(t *testing.T) {
	for _, c := range []struct {
		l    []float64
		want float64
	}{
		{[]float64{0}, 0}, {[]float64{minus()}, 0}, {[]float64{minus(), minus(), minus()}, 0}, {[]float64{minus(), 0}, 0},
		{[]float64{inf(), 1}, inf()}, {[]float64{1, down()}, down()}, {[]float64{inf(), inf()}, inf()}, {[]float64{inf(), -huge}, inf()},
		{[]float64{inf(), down()}, nan()}, {[]float64{down(), 1, inf()}, nan()},
		{[]float64{nan()}, nan()}, {[]float64{1, nan()}, nan()}, {[]float64{nan(), 1}, nan()}, {[]float64{inf(), nan(), 1}, nan()},
	} {
		if got := ratio.Mean(c.l); !same(got, c.want) {
			t.Errorf("Mean(%v): %v; want %v", c.l, got, c.want)
		}
	}
}

func TestP301Clamp(t *testing.T) {
	for _, c := range []struct{ x, lo, hi, want float64 }{
		{5, 1, 9, 5}, {1, 1, 9, 1}, {9, 1, 9, 9}, {0, 1, 9, 1}, {10, 1, 9, 9}, {1, 1, 1, 1}, {0, 1, 1, 1}, {2, 1, 1, 1},
		{inf(), 1, 9, 9}, {down(), 1, 9, 1}, {nan(), 1, 9, 1}, {nan(), down(), inf(), down()},
		{5, 9, 1, 9}, {0, 9, 1, 9}, {20, 9, 1, 9}, {nan(), 9, 1, 9}, {1, 9, 1, 9},
		{minus(), 0, 1, 0}, {0, minus(), minus(), minus()}, {minus(), minus(), 0, minus()}, {0, minus(), 0, 0}, {5, 0, minus(), 0},
		{5, nan(), 1, nan()}, {5, nan(), nan(), nan()}, {5, 1, nan(), 5}, {0, 1, nan(), 1}, {inf(), 1, nan(), inf()},
		{nan(), 1, nan(), 1}, {nan(), nan(), nan(), nan()}, {inf(), inf(), inf(), inf()}, {5, down(), inf(), 5}, {5, inf(), down(), inf()},
	} {
		if got := ratio.Clamp(c.x, c.lo, c.hi); !same(got, c.want) {
			t.Errorf("Clamp(%v, %v, %v): %v; want %v", c.x, c.lo, c.hi, got, c.want)
		}
	}
}

func TestP301ClampIsAsRanked(t *testing.T) {
	l := ranked()
	last := len(l) - 1
	for x := range l {
		for lo := range l {
			for hi := range l {
				want := x
				if lo > hi || x == last || x < lo {
					want = lo
				} else if x > hi {
					want = hi
				}
				if got := ratio.Clamp(l[x], l[lo], l[hi]); !same(got, l[want]) {
					t.Errorf("Clamp(%v, %v, %v): %v; want %v", l[x], l[lo], l[hi], got, l[want])
				}
			}
		}
	}
}

func TestP301ClampOfNoNumberTakesLoItself(t *testing.T) {
	x, lo, hi := nanOf(11), nanOf(22), nanOf(33)
	if got := ratio.Clamp(x, lo, hi); math.Float64bits(got) != math.Float64bits(lo) {
		t.Errorf("Clamp of three NaNs: %#x; want %#x", math.Float64bits(got), math.Float64bits(lo))
	}
}

func TestP301Sort(t *testing.T) {
	for _, c := range []struct{ l, want []float64 }{
		{nil, nil}, {[]float64{}, nil}, {[]float64{7}, []float64{7}}, {[]float64{3, 1, 2}, []float64{1, 2, 3}}, {[]float64{1, 2, 2, 1}, []float64{1, 1, 2, 2}},
		{[]float64{0, minus()}, []float64{minus(), 0}}, {[]float64{0, minus(), 0, minus()}, []float64{minus(), minus(), 0, 0}},
		{[]float64{nanOf(5), 1, minus(), down(), 0, inf(), -3, minus()}, []float64{down(), -3, minus(), minus(), 0, 1, inf(), nanOf(5)}},
		{[]float64{nanOf(7), nanOf(5), 1}, []float64{1, nanOf(7), nanOf(5)}}, {[]float64{nanOf(5), inf(), nanOf(7)}, []float64{inf(), nanOf(5), nanOf(7)}},
	} {
		if got := ratio.Sort(c.l); !sameBits(got, c.want) {
			t.Errorf("Sort(%v): %v; want %v", c.l, got, c.want)
		}
	}
}

// Each NaN bears its number among the NaNs: of rows this long no sort keeps them in order by chance.
func TestP301SortKeepsThoseAlikeInTheirOrder(t *testing.T) {
	all := ranked()
	last := len(all) - 1
	for _, count := range []int{2, 12, 13, 50, 300, 1000} {
		var l, alike []float64
		places := mixed(count, len(all)+10)
		for i, p := range places {
			if p >= last {
				places[i] = last
				alike = append(alike, nanOf(uint64(len(alike)+1)))
				l = append(l, alike[len(alike)-1])
			} else {
				l = append(l, all[p])
			}
		}
		slices.Sort(places)
		var want []float64
		for _, p := range places[:count-len(alike)] {
			want = append(want, all[p])
		}
		if got := ratio.Sort(l); !sameBits(got, append(want, alike...)) {
			t.Errorf("Sort of %d: %v", count, got)
		}
	}
}

func TestP2ListsAndTheirSpareRoomAreLeftAlone(t *testing.T) {
	whole := []float64{nanOf(3), 1, minus(), 0, -5, inf(), nanOf(9)}
	for n := range len(whole) + 1 {
		before := slices.Clone(whole)
		ratio.Least(whole[:n])
		ratio.Most(whole[:n])
		ratio.Mean(whole[:n])
		ratio.Sort(whole[:n])
		if !sameBits(whole, before) {
			t.Errorf("of the first %d: %v of %v", n, whole, before)
		}
	}
}

func TestP2SortAnswersNewMemory(t *testing.T) {
	for _, whole := range [][]float64{{1, 2, 3, 4, 5}, {5, 4, 3, 2, 1}, {nan(), 0, minus(), 7, 8}} {
		for n := range len(whole) + 1 {
			before := slices.Clone(whole)
			got := ratio.Sort(whole[:n])
			again := ratio.Sort(whole[:n])
			kept := slices.Clone(again)
			got = got[:cap(got)]
			for i := range got {
				got[i] = 99
			}
			if !sameBits(whole, before) || !sameBits(again, kept) {
				t.Errorf("what Sort answered shares with others: %v of %v, %v of %v", whole, before, again, kept)
			}
		}
	}
}

func TestP3SameCallsAnswerTheSame(t *testing.T) {
	l := []float64{nanOf(3), 1, minus(), 0, -5, inf(), nanOf(9)}
	want := []float64{-5, minus(), 0, 1, inf(), nanOf(3), nanOf(9)}
	for range 3 {
		if got := ratio.Sort(l); !sameBits(got, want) {
			t.Errorf("Sort: %v; want %v", got, want)
		}
		if ratio.Least(l) != -5 || math.Float64bits(ratio.Most(l)) != math.Float64bits(nanOf(3)) || ratio.Mean(l[1:5]) != -1 {
			t.Errorf("%v, %#x, %v", ratio.Least(l), math.Float64bits(ratio.Most(l)), ratio.Mean(l[1:5]))
		}
	}
}
