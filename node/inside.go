package node

import (
	"slices"
	"strings"

	"ballast/api"
	"ballast/catch"
	"ballast/label"
	"ballast/parts"
	"ballast/res"
	"ballast/taint"
)

const (
	up        = "up"
	cordon    = "cordon"
	wordCount = 5
)

func cordonText(isCordon bool) string {
	if isCordon {
		return cordon
	}
	return up
}

// parsed asks for the form of the whole ahead of each word's, and for all words ahead of what Check asks for: a Name that is none is told last.
func parsed(s string) Node {
	words := wordsOf(s)
	n := Node{
		// Cloned: what is answered keeps no piece of the text that was handed in.
		Name:   strings.Clone(words[0]),
		Cap:    catch.Sound(res.Parse(words[1])),
		Labels: catch.Sound(label.Parse(words[2])),
		Taints: catch.Sound(taint.Parse(words[3])),
		Cordon: words[4] == cordon,
	}
	return catch.Sound(n, Check(n))
}

// wordsOf panics with api.ErrForm: who calls it is inside of catch.Errno.
func wordsOf(s string) []string {
	words := parts.Words(s, wordCount)
	if last := words[wordCount-1]; last != up && last != cordon {
		panic(api.ErrForm)
	}
	return words
}

func nameOf(n Node) string { return n.Name }

// owned takes lists of its own: an answer shares no memory with what was handed in.
func owned(n Node) Node {
	n.Cap = slices.Clone(n.Cap)
	n.Labels = slices.Clone(n.Labels)
	n.Taints = slices.Clone(n.Taints)
	return n
}
