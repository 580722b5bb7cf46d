// Package rows: rows of things that rise by a key, as a name is one.
package rows

import (
	"cmp"
	"slices"

	"ballast/api"
)

// Check tells too many ahead of all, then of each thing what check tells, then that its key is not behind the one's ahead.
func Check[T any, K cmp.Ordered](l []T, most int, key func(T) K, check func(T) api.Errno) api.Errno {
	if len(l) > most {
		return api.ErrLong
	}
	for i, x := range l {
		if e := check(x); e != api.OK {
			return e
		}
		if i > 0 && key(x) <= key(l[i-1]) {
			return api.ErrOrder
		}
	}
	return api.OK
}

// Find answers a copy of the first thing of that name; copied takes lists of its own.
func Find[T any](l []T, sought string, name func(T) string, copied func(T) T) (found T, there bool) {
	i := slices.IndexFunc(l, func(x T) bool { return name(x) == sought })
	if i < 0 {
		return found, false
	}
	return copied(l[i]), true
}
