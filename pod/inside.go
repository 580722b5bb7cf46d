package pod

import (
	"slices"
	"strconv"
	"strings"

	"ballast/api"
	"ballast/catch"
	"ballast/label"
	"ballast/parts"
	"ballast/res"
	"ballast/taint"
)

const (
	realPod  = "real"
	hold     = "hold"
	none     = "-"
	noPrio   = "-1"
	between  = "/"
	holdPrio = -1
)

// Where each word of a pod stands.
const (
	nameAt = iota
	ownerAt
	prioAt
	needAt
	labelsAt
	selAt
	tolsAt
	spreadAt
	nodeAt
	kindAt
	wordCount
)

func checkNames(name, owner string) api.Errno {
	if !res.Name(name) || !isNameOrNone(owner) {
		return api.ErrName
	}
	return api.OK
}

// checkPrio: a placeholder is behind all that are none, and nothing else is.
func checkPrio(prio int, isHold bool) api.Errno {
	if prio < holdPrio || prio > api.MaxPrio || (prio == holdPrio) != isHold {
		return api.ErrArg
	}
	return api.OK
}

func checkSpread(key string, most int) api.Errno {
	switch {
	case !isNameOrNone(key):
		return api.ErrName
	case key == "" && most != 0, key != "" && (most < 1 || most > api.MaxPods):
		return api.ErrArg
	}
	return api.OK
}

func checkNode(node string) api.Errno {
	if !isNameOrNone(node) {
		return api.ErrName
	}
	return api.OK
}

func isNameOrNone(s string) bool { return s == "" || res.Name(s) }

func spreadText(key string, most int) string {
	if key == "" {
		return none
	}
	return key + between + strconv.Itoa(most)
}

func kindText(isHold bool) string {
	if isHold {
		return hold
	}
	return realPod
}

// parsed asks for the forms of Prio, spread and kind ahead of each word's error, and for all words ahead of what Check asks for: a name that is none is told last.
func parsed(s string) Pod {
	words := parts.Words(s, wordCount)
	p := Pod{Prio: prio(words[prioAt]), Hold: isHold(words[kindAt])}
	p.Key, p.Most = spread(words[spreadAt])
	// Cloned: what is answered keeps no piece of the text that was handed in.
	p.Name = strings.Clone(words[nameAt])
	p.Owner = parts.ReadOptional(words[ownerAt])
	p.Need = catch.Sound(res.Parse(words[needAt]))
	p.Labels = catch.Sound(label.Parse(words[labelsAt]))
	p.Sel = catch.Sound(label.ParseSel(words[selAt]))
	p.Tols = catch.Sound(taint.ParseTols(words[tolsAt]))
	p.Node = parts.ReadOptional(words[nodeAt])
	return catch.Sound(p, Check(p))
}

// prio panics with api.ErrForm, as isHold and spread do: who calls them is inside of catch.Errno.
func prio(word string) int {
	if word == noPrio {
		return holdPrio
	}
	return parts.Number(word)
}

func isHold(word string) bool {
	if word != hold && word != realPod {
		panic(api.ErrForm)
	}
	return word == hold
}

// spread: of a second `/` the number is no decimal.
func spread(word string) (key string, most int) {
	if word == none {
		return "", 0
	}
	ahead, behind, _ := strings.Cut(word, between)
	if ahead == "" {
		panic(api.ErrForm)
	}
	return strings.Clone(ahead), parts.Number(behind)
}

func nameOf(p Pod) string { return p.Name }

// owned takes lists of its own: an answer shares no memory with what was handed in.
func owned(p Pod) Pod {
	p.Need = slices.Clone(p.Need)
	p.Labels = slices.Clone(p.Labels)
	p.Sel = slices.Clone(p.Sel)
	p.Tols = slices.Clone(p.Tols)
	return p
}
