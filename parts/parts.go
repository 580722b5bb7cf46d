// Package parts: what texts are made of: words, decimals, short lists. What reads them panics with what is wrong: who calls it is inside of catch.Errno.
package parts

import (
	"iter"
	"strconv"
	"strings"

	"ballast/api"
	"ballast/catch"
)

const (
	none    = "-"
	between = ","
	blank   = " "
)

// Text joins what tell says of each item.
func Text[T any](l []T, tell func(T) string) string {
	if len(l) == 0 {
		return none
	}
	told := make([]string, len(l))
	for i, x := range l {
		told[i] = tell(x)
	}
	return strings.Join(told, between)
}

// Parse reads all parts ahead of the check, as a form that is none is told first, wherever it stands; read panics with api.ErrForm.
func Parse[L ~[]T, T any](s string, read func(part string) T, check func(L) api.Errno) L {
	if s == none {
		return nil
	}
	var l L
	// Cloned: what is answered keeps no piece of the text that was handed in.
	for part := range strings.SplitSeq(strings.Clone(s), between) {
		x := read(part)
		// One too many is enough to be refused, however many there are.
		if len(l) <= api.MaxList {
			l = append(l, x)
		}
	}
	return catch.Sound(l, check(l))
}

// Join puts blanks between words.
func Join(words ...string) string { return strings.Join(words, blank) }

// Words answers so many words of s, with a blank between each two; of two blanks together there is an empty word between.
func Words(s string, count int) []string { return split(s, blank, count) }

// AtLeast answers the first words of s, so many, and those behind, of which there may be none.
func AtLeast(s string, count int) (first []string, behind iter.Seq[string]) {
	words := strings.SplitN(s, blank, count+1)
	if len(words) < count {
		panic(api.ErrForm)
	}
	return words[:count], func(yield func(string) bool) {
		for _, rest := range words[count:] {
			// Made anew each time, as it may be ranged over just once.
			for word := range strings.SplitSeq(rest, blank) {
				if !yield(word) {
					return
				}
			}
		}
	}
}

// Decimals answers so many decimals of s, as they are written.
func Decimals(s, between string, count int) []string {
	numbers := split(s, between, count)
	for _, number := range numbers {
		if !IsDecimal(number) {
			panic(api.ErrForm)
		}
	}
	return numbers
}

func split(s, between string, count int) []string {
	// One part too many is enough to be refused, however many there are.
	l := strings.SplitN(s, between, count+1)
	if len(l) != count {
		panic(api.ErrForm)
	}
	return l
}

// Optional tells a text that may be empty.
func Optional(s string) string {
	if s == "" {
		return none
	}
	return s
}

// ReadOptional is Optional's back; an empty word is no form of it, as it is not so told.
func ReadOptional(word string) string {
	switch word {
	case "":
		panic(api.ErrForm)
	case none:
		return ""
	}
	// Cloned: what is answered keeps no piece of the text that was handed in.
	return strings.Clone(word)
}

// IsDecimal: a 0 ahead of other digits would let one number be written in several ways.
func IsDecimal(s string) bool {
	if s == "" || len(s) > 1 && s[0] == '0' {
		return false
	}
	for i := range len(s) {
		if !IsDigit(s[i]) {
			return false
		}
	}
	return true
}

func IsDigit(c byte) bool { return '0' <= c && c <= '9' }

// Number reads a decimal up to 2^31 - 1.
func Number(s string) int {
	n, err := strconv.ParseInt(s, 10, 32)
	if err != nil || !IsDecimal(s) {
		panic(api.ErrForm)
	}
	return int(n)
}

// Quantity reads a decimal; one above 2^63 - 1 is told by api.ErrOver.
func Quantity(s string) int64 {
	if !IsDecimal(s) {
		panic(api.ErrForm)
	}
	// Of a decimal without a sign the one error left is that it is too great.
	n, err := strconv.ParseInt(s, 10, 64)
	if err != nil {
		panic(api.ErrOver)
	}
	return n
}
