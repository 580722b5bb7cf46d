// Package trial: what the tests of several layers try. No layer calls it.
package trial

import (
	"iter"
	"slices"
	"strings"

	"ballast/api"
)

// NotNames: texts, none of them empty and none with a blank in it, that are no res.Name.
func NotNames() []string {
	return []string{strings.Repeat("a", api.MaxName+1), strings.Repeat("a", 1000), "A", "aA", "-a", "--", "a-b", "a_b", "a.b", "a:b", ":", "a=1", "a,b", "a/1", "a!", "!", "*", "a*", "é", "１", "a\t", "\n", "a\x00", "\xff"}
}

// Spaced: texts with a blank in them, that are no res.Name either.
func Spaced() []string {
	return []string{" ", "a b", " a", "a "}
}

// Texts are those of one to most of the signs, shorter ones first.
func Texts(signs string, most int) iter.Seq[string] {
	return func(yield func(string) bool) {
		shorter := []string{""}
		for range most {
			var longer []string
			for _, text := range shorter {
				for _, sign := range signs {
					longer = append(longer, text+string(sign))
				}
			}
			for _, text := range longer {
				if !yield(text) {
					return
				}
			}
			shorter = longer
		}
	}
}

// Overwrite writes x into all of a list, its spare room too.
func Overwrite[T any](l []T, x T) {
	whole := l[:cap(l)]
	for i := range whole {
		whole[i] = x
	}
}

// With is a text of words with a blank between, one of them another.
func With(text string, at int, word string) string {
	words := strings.Split(text, " ")
	words[at] = word
	return strings.Join(words, " ")
}

// Word is one for a place of a text, and what is told of it there.
type Word struct {
	at   int
	word string
	want api.Errno
}

func Wrong(at int, word string, want api.Errno) Word { return Word{at, word, want} }

// WrongTexts are those that have one of the wrong words, alone and with each of the later groups; each with what is told of the first.
func WrongTexts(text string, groups [][]Word) iter.Seq2[string, api.Errno] {
	return func(yield func(string, api.Errno) bool) {
		sound := strings.Split(text, " ")
		for first, second := range ahead(groups) {
			words := slices.Clone(sound)
			if second != nil {
				words[second.at] = second.word
			}
			words[first.at] = first.word
			if !yield(strings.Join(words, " "), first.want) {
				return
			}
		}
	}
}

// Fault spoils one part of a thing; what is told of it is Want.
type Fault[T any] struct {
	Want  api.Errno
	Spoil func(x *T)
}

func Spoilt[T any](want api.Errno, spoil func(x *T)) Fault[T] { return Fault[T]{want, spoil} }

// Faulty are the things that have one of the faults, alone and with each of the later groups; each with what is told of the first. Whole makes a sound one.
func Faulty[T any](whole func() T, groups [][]Fault[T]) iter.Seq2[T, api.Errno] {
	return func(yield func(T, api.Errno) bool) {
		for first, second := range ahead(groups) {
			x := whole()
			if second != nil {
				second.Spoil(&x)
			}
			first.Spoil(&x)
			if !yield(x, first.Want) {
				return
			}
		}
	}
}

// ahead are all items, each alone (beside nil) and with each one of the later groups.
func ahead[T any](groups [][]T) iter.Seq2[T, *T] {
	return func(yield func(T, *T) bool) {
		for i, group := range groups {
			later := slices.Concat(groups[i+1:]...)
			for _, first := range group {
				if !yield(first, nil) {
					return
				}
				for j := range later {
					if !yield(first, &later[j]) {
						return
					}
				}
			}
		}
	}
}
