// Package trial: what the tests of several layers try. No layer calls it.
package trial

import (
	"iter"
	"strings"

	"ballast/api"
)

// NotNames: texts, none of them empty and none with a blank in it, that are no res.Name.
func NotNames() []string {
	return []string{strings.Repeat("a", api.MaxName+1), strings.Repeat("a", 1000), "A", "aA", "-a", "--", "a-b", "a_b", "a.b", "a:b", ":", "a=1", "a,b", "a/1", "a!", "!", "*", "a*", "é", "１", "a\t", "\n", "a\x00", "\xff"}
}

// Spaced: texts with a blank in them, that are no res.Name either.
func Spaced() []string {
	return []string{" ", "a b", " a", "a "}
}

// Texts are those of one to most of the signs, shorter ones first.
func Texts(signs string, most int) iter.Seq[string] {
	return func(yield func(string) bool) {
		shorter := []string{""}
		for range most {
			var longer []string
			for _, text := range shorter {
				for _, sign := range signs {
					longer = append(longer, text+string(sign))
				}
			}
			for _, text := range longer {
				if !yield(text) {
					return
				}
			}
			shorter = longer
		}
	}
}

// Overwrite writes x into all of a list, its spare room too.
func Overwrite[T any](l []T, x T) {
	whole := l[:cap(l)]
	for i := range whole {
		whole[i] = x
	}
}
