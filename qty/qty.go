// Package qty: quantities. See doc/01-qty.md.
package qty

import (
	"math"
	"math/bits"

	"ballast/api"
)

func Add(a, b int64) (int64, api.Errno) {
	if a < 0 || b < 0 {
		return 0, api.ErrArg
	}
	// Asked by a difference: the sum itself could wrap round.
	if a > math.MaxInt64-b {
		return 0, api.ErrOver
	}
	return a + b, api.OK
}

func Sub(a, b int64) (int64, api.Errno) {
	if a < 0 || b < 0 {
		return 0, api.ErrArg
	}
	if a < b {
		return 0, api.ErrOver
	}
	return a - b, api.OK
}

func Mul(a, b int64) (int64, api.Errno) {
	if a < 0 || b < 0 {
		return 0, api.ErrArg
	}
	high, low := bits.Mul64(uint64(a), uint64(b))
	if high > 0 || low > math.MaxInt64 {
		return 0, api.ErrOver
	}
	return int64(low), api.OK
}

func Part(a int64, permille int64) (int64, api.Errno) {
	down, _, e := divided(a, permille)
	return down, e
}

func PartUp(a int64, permille int64) (int64, api.Errno) {
	down, rest, e := divided(a, permille)
	if e != api.OK || rest == 0 {
		return down, e
	}
	return Add(down, 1)
}

// The product keeps all its 128 bits: a part may be a quantity where the product is none.
func divided(a, permille int64) (down int64, rest uint64, e api.Errno) {
	if a < 0 || permille < 0 {
		return 0, 0, api.ErrArg
	}
	high, low := bits.Mul64(uint64(a), uint64(permille))
	// Div64 panics on a quotient beyond 64 bits.
	if high >= 1000 {
		return 0, 0, api.ErrOver
	}
	quotient, rest := bits.Div64(high, low, 1000)
	if quotient > math.MaxInt64 {
		return 0, 0, api.ErrOver
	}
	return int64(quotient), rest, api.OK
}

func Sum(l []int64) (sum int64, e api.Errno) {
	// Asked of all first: a number below 0 counts ahead of a sum that is too great.
	if anyBelow(l) {
		return 0, api.ErrArg
	}
	defer func() {
		if r := recover(); r != nil {
			sum, e = 0, api.ErrOver
		}
	}()
	return added(l), api.OK
}

func anyBelow(l []int64) bool {
	for _, n := range l {
		if n < 0 {
			return true
		}
	}
	return false
}

// An overflow goes out by a panic: who calls it recovers.
func added(l []int64) int64 {
	var sum int64
	for _, n := range l {
		next, e := Add(sum, n)
		if e != api.OK {
			panic(e)
		}
		sum = next
	}
	return sum
}
