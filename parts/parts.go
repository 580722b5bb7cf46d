// Package parts: short lists in words, a part for each item.
package parts

import (
	"strings"

	"ballast/api"
	"ballast/catch"
)

const (
	none    = "-"
	between = ","
)

// Text joins what tell says of each item.
func Text[T any](l []T, tell func(T) string) string {
	if len(l) == 0 {
		return none
	}
	told := make([]string, len(l))
	for i, x := range l {
		told[i] = tell(x)
	}
	return strings.Join(told, between)
}

// Parse panics with what is wrong with s: who calls it is inside of catch.Errno, and so is read, which panics with api.ErrForm. It reads all parts ahead of the check, as a form that is none is told first, wherever it stands.
func Parse[L ~[]T, T any](s string, read func(part string) T, check func(L) api.Errno) L {
	if s == none {
		return nil
	}
	var l L
	// Cloned: what is answered keeps no piece of the text that was handed in.
	for part := range strings.SplitSeq(strings.Clone(s), between) {
		x := read(part)
		// One too many is enough to be refused, however many there are.
		if len(l) <= api.MaxList {
			l = append(l, x)
		}
	}
	return catch.Sound(l, check(l))
}
