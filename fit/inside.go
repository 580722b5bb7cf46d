package fit

import (
	"ballast/api"
	"ballast/catch"
	"ballast/label"
	"ballast/node"
	"ballast/pod"
	"ballast/res"
	"ballast/spread"
	"ballast/state"
	"ballast/taint"
)

// reason is the first one why p does not fit; others is the cluster without p.
func reason(others state.State, p pod.Pod, name string) api.Errno {
	_, e := catch.Errno(func() node.Node { return fitting(others, p, name) })
	return e
}

// fitting panics with the first reason: who calls it is inside of catch.Errno. So are all below that panic.
func fitting(others state.State, p pod.Pod, name string) node.Node {
	n := nodeOf(others, name)
	refuse(!isWanted(p, n), api.ErrSel)
	refuse(!isBorne(p, n), api.ErrTaint)
	refuse(isCrowded(others, p, name), api.ErrSkew)
	refuse(!hasRoom(others, p, name), api.ErrRoom)
	return n
}

func refuse(isSo bool, e api.Errno) {
	if isSo {
		panic(e)
	}
}

func nodeOf(s state.State, name string) node.Node {
	for _, n := range s.Nodes {
		if n.Name == name {
			return n
		}
	}
	panic(api.ErrName)
}

func isWanted(p pod.Pod, n node.Node) bool {
	return !n.Cordon && label.Match(p.Sel, n.Labels)
}

func isBorne(p pod.Pod, n node.Node) bool {
	_, there := taint.Worst(p.Tols, n.Taints)
	return !there
}

func isCrowded(others state.State, p pod.Pod, name string) bool {
	if p.Key == "" {
		return false
	}
	skew, there := spread.Skew(others, p, name)
	return !there || skew > p.Most
}

func hasRoom(others state.State, p pod.Pod, name string) bool {
	free, e := state.Free(others, name)
	// A node whose others need more than it has offers no room, not even for one that needs nothing.
	return e == api.OK && res.Fits(p.Need, free)
}
