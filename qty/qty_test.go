package qty_test

import (
	"math"
	"math/big"
	"slices"
	"testing"

	"ballast/api"
	"ballast/qty"
)

const (
	most  = math.MaxInt64
	least = math.MinInt64
)

// Small ones, the neighbours of 1000 and its parts, of 2^31, 2^32, 2^62, of a square root of 2^63, and both ends.
var numbers = []int64{
	0, 1, 2, 3, 7, 10, 499, 500, 501, 999, 1000, 1001, 1999, 2000, 2001,
	1<<31 - 1, 1 << 31, 1<<31 + 1, 1<<32 - 1, 1 << 32, 1<<32 + 1,
	3037000499, 3037000500, most / 1000, most/1000 + 1,
	1<<62 - 1, 1 << 62, 1<<62 + 1, most - 1000, most - 999, most - 1, most,
}

var below = []int64{-1, -2, -999, -1000, -1 << 31, -1 << 32, -1 << 62, least + 1, least}

type pairCall struct {
	name string
	call func(a, b int64) (int64, api.Errno)
	real func(a, b *big.Int) *big.Int
}

func pairCalls() []pairCall {
	thousand := big.NewInt(1000)
	return []pairCall{
		{"Add", qty.Add, func(a, b *big.Int) *big.Int { return new(big.Int).Add(a, b) }},
		{"Sub", qty.Sub, func(a, b *big.Int) *big.Int { return new(big.Int).Sub(a, b) }},
		{"Mul", qty.Mul, func(a, b *big.Int) *big.Int { return new(big.Int).Mul(a, b) }},
		{"Part", qty.Part, func(a, b *big.Int) *big.Int {
			p := new(big.Int).Mul(a, b)
			return p.Div(p, thousand)
		}},
		{"PartUp", qty.PartUp, func(a, b *big.Int) *big.Int {
			p := new(big.Int).Mul(a, b)
			p.Add(p, big.NewInt(999))
			return p.Div(p, thousand)
		}},
	}
}

// wanted: what P101 asks for where the whole number is n.
func wanted(n *big.Int) (int64, api.Errno) {
	if n.Sign() < 0 || !n.IsInt64() {
		return 0, api.ErrOver
	}
	return n.Int64(), api.OK
}

func TestP101PairsAreAsWholeNumbersTellThem(t *testing.T) {
	for _, c := range pairCalls() {
		for _, a := range numbers {
			for _, b := range numbers {
				want, wantErr := wanted(c.real(big.NewInt(a), big.NewInt(b)))
				if got, e := c.call(a, b); got != want || e != wantErr {
					t.Errorf("%s(%d, %d): %d %v; want %d %v", c.name, a, b, got, e, want, wantErr)
				}
			}
		}
	}
}

func TestP101PairsRefuseNumbersBelowNoughtFirst(t *testing.T) {
	for _, c := range pairCalls() {
		for _, n := range below {
			for _, m := range slices.Concat(numbers, below) {
				if got, e := c.call(n, m); got != 0 || e != api.ErrArg {
					t.Errorf("%s(%d, %d): %d %v; want 0 arg", c.name, n, m, got, e)
				}
				if got, e := c.call(m, n); got != 0 || e != api.ErrArg {
					t.Errorf("%s(%d, %d): %d %v; want 0 arg", c.name, m, n, got, e)
				}
			}
		}
	}
}

type pairCase struct {
	a, b, want int64
	e          api.Errno
}

func checkPairs(t *testing.T, name string, call func(a, b int64) (int64, api.Errno), l []pairCase) {
	t.Helper()
	for _, c := range l {
		if got, e := call(c.a, c.b); got != c.want || e != c.e {
			t.Errorf("%s(%d, %d): %d %v; want %d %v", name, c.a, c.b, got, e, c.want, c.e)
		}
	}
}

func TestP101AddSubMul(t *testing.T) {
	checkPairs(t, "Add", qty.Add, []pairCase{
		{0, 0, 0, api.OK}, {5, 3, 8, api.OK}, {most - 1, 1, most, api.OK}, {0, most, most, api.OK},
		{most, 1, 0, api.ErrOver}, {1 << 62, 1 << 62, 0, api.ErrOver}, {most, most, 0, api.ErrOver},
	})
	checkPairs(t, "Sub", qty.Sub, []pairCase{
		{0, 0, 0, api.OK}, {5, 3, 2, api.OK}, {most, most, 0, api.OK}, {most, 0, most, api.OK},
		{0, 1, 0, api.ErrOver}, {3, 5, 0, api.ErrOver}, {0, most, 0, api.ErrOver},
	})
	checkPairs(t, "Mul", qty.Mul, []pairCase{
		{0, most, 0, api.OK}, {most, 0, 0, api.OK}, {5, 3, 15, api.OK}, {most, 1, most, api.OK},
		{3037000499, 3037000499, 9223372030926249001, api.OK}, {3037000500, 3037000500, 0, api.ErrOver},
		{1 << 32, 1 << 31, 0, api.ErrOver}, {1 << 32, 1 << 32, 0, api.ErrOver}, {most, most, 0, api.ErrOver},
	})
}

func TestP101PartRoundsDown(t *testing.T) {
	checkPairs(t, "Part", qty.Part, []pairCase{
		{0, 500, 0, api.OK}, {10, 0, 0, api.OK}, {10, 1000, 10, api.OK}, {10, 250, 2, api.OK},
		{1, 999, 0, api.OK}, {1, 1000, 1, api.OK}, {1, 1999, 1, api.OK}, {1001, 1, 1, api.OK}, {7, 2500, 17, api.OK},
	})
}

func TestP101PartUpRoundsUp(t *testing.T) {
	checkPairs(t, "PartUp", qty.PartUp, []pairCase{
		{0, 500, 0, api.OK}, {10, 0, 0, api.OK}, {10, 1000, 10, api.OK}, {10, 250, 3, api.OK},
		{1, 1, 1, api.OK}, {1, 1000, 1, api.OK}, {1, 1001, 2, api.OK}, {1001, 1, 2, api.OK}, {7, 2500, 18, api.OK},
	})
}

// Products beyond 64 bits whose parts are quantities, and parts on both sides of 2^63 and 2^64.
func TestP101PartsOfGreatProducts(t *testing.T) {
	checkPairs(t, "Part", qty.Part, []pairCase{
		{most, 1000, most, api.OK}, {1000, most, most, api.OK}, {most, 500, 1<<62 - 1, api.OK},
		{most, 1001, 0, api.ErrOver}, {1 << 62, 2000, 0, api.ErrOver}, {1 << 62, 1999, 9218760350836348420, api.OK},
		{1 << 62, 4000, 0, api.ErrOver}, {1 << 62, 4001, 0, api.ErrOver}, {most, most, 0, api.ErrOver},
	})
	checkPairs(t, "PartUp", qty.PartUp, []pairCase{
		{most, 1000, most, api.OK}, {1000, most, most, api.OK}, {most, 500, 1 << 62, api.OK},
		{most, 1001, 0, api.ErrOver}, {1 << 62, 2000, 0, api.ErrOver}, {1 << 62, 1999, 9218760350836348421, api.OK},
		{1 << 62, 4000, 0, api.ErrOver}, {1 << 62, 4001, 0, api.ErrOver}, {most, most, 0, api.ErrOver},
	})
}

// Between 2^63 - 1 and 2^63 a part is a quantity rounded down and none rounded up; between 2^64 - 1 and 2^64 the rounding up must not wrap round to 0.
func TestP101PartsJustBelowPowersOfTwo(t *testing.T) {
	for _, c := range []pairCase{
		{9214157878975800007, 1001, most, api.OK},
		{9204962112629516774, 1002, most, api.OK},
		{9209557700304319329, 2003, 0, api.ErrOver},
		{9204962112629516774, 2004, 0, api.ErrOver},
	} {
		turned := pairCase{c.b, c.a, c.want, c.e}
		checkPairs(t, "Part", qty.Part, []pairCase{c, turned})
		c.want, c.e = 0, api.ErrOver
		turned.want, turned.e = 0, api.ErrOver
		checkPairs(t, "PartUp", qty.PartUp, []pairCase{c, turned})
	}
}

func TestP101Sum(t *testing.T) {
	for i, c := range []struct {
		l    []int64
		want int64
		e    api.Errno
	}{
		{nil, 0, api.OK},
		{[]int64{}, 0, api.OK},
		{[]int64{0}, 0, api.OK},
		{[]int64{7}, 7, api.OK},
		{[]int64{1, 2, 3}, 6, api.OK},
		{[]int64{most}, most, api.OK},
		{[]int64{0, most, 0}, most, api.OK},
		{[]int64{1 << 62, 1<<62 - 1}, most, api.OK},
		{[]int64{most, 1}, 0, api.ErrOver},
		{[]int64{1, most}, 0, api.ErrOver},
		{[]int64{1 << 62, 1 << 62}, 0, api.ErrOver},
		{[]int64{most, most, 2}, 0, api.ErrOver},
		{[]int64{most, most, most, most, 4}, 0, api.ErrOver},
		{[]int64{-1}, 0, api.ErrArg},
		{[]int64{least}, 0, api.ErrArg},
		{[]int64{5, -1}, 0, api.ErrArg},
		{[]int64{-1, 5}, 0, api.ErrArg},
		{[]int64{most, 1, -1}, 0, api.ErrArg},
		{[]int64{most, -1, 1}, 0, api.ErrArg},
		{[]int64{-1, most, most}, 0, api.ErrArg},
	} {
		if got, e := qty.Sum(c.l); got != c.want || e != c.e {
			t.Errorf("%d: Sum(%v): %d %v; want %d %v", i, c.l, got, e, c.want, c.e)
		}
	}
}

func TestP2SumLeavesItsListAndSpareRoomAlone(t *testing.T) {
	for _, whole := range [][]int64{{1, 2, 3, 4, 5}, {most, 1, 2, -3, most}, {1, -1, 3, 4, 5}} {
		before := slices.Clone(whole)
		qty.Sum(whole[:3])
		if !slices.Equal(whole, before) {
			t.Errorf("Sum made %v of %v", whole, before)
		}
	}
}

func TestP3SameCallsAnswerTheSame(t *testing.T) {
	l := []int64{most, 1}
	for range 3 {
		if n, e := qty.Sum(l); n != 0 || e != api.ErrOver {
			t.Errorf("Sum(%v): %d %v; want 0 over", l, n, e)
		}
		if n, e := qty.Sum(l[1:]); n != 1 || e != api.OK {
			t.Errorf("Sum(%v): %d %v; want 1 ok", l[1:], n, e)
		}
	}
}
