package budget

import (
	"strings"

	"ballast/api"
	"ballast/catch"
	"ballast/label"
	"ballast/parts"
	"ballast/pod"
	"ballast/res"
)

// Where each word of a budget stands.
const (
	nameAt = iota
	selAt
	floorAt
	wordCount
)

func checkName(name string) api.Errno {
	if !res.Name(name) {
		return api.ErrName
	}
	return api.OK
}

func checkFloor(floor int) api.Errno {
	if floor < 0 || floor > api.MaxPods {
		return api.ErrArg
	}
	return api.OK
}

// covers: a placeholder serves nobody, nor does a pod that is nowhere.
func covers(b Budget, p pod.Pod) bool {
	return p.Node != "" && !p.Hold && label.Match(b.Sel, p.Labels)
}

// parsed asks for Floor's form ahead of the selector's error, and for both ahead of what Check asks for: a name that is none is told behind them.
func parsed(s string) Budget {
	words := parts.Words(s, wordCount)
	b := Budget{Floor: parts.Number(words[floorAt])}
	// Cloned: what is answered keeps no piece of the text that was handed in.
	b.Name = strings.Clone(words[nameAt])
	b.Sel = catch.Sound(label.ParseSel(words[selAt]))
	return catch.Sound(b, Check(b))
}

func nameOf(b Budget) string { return b.Name }
