package sched

import (
	"ballast/pod"
	"ballast/score"
	"ballast/state"
)

// owned takes lists of its own, by a Move that leaves all as it is: the first pod goes where it is by now.
func owned(s state.State) state.State {
	if len(s.Pods) == 0 {
		return state.Move(s, "", "")
	}
	return state.Move(s, s.Pods[0].Name, s.Pods[0].Node)
}

func isSettled(p pod.Pod) bool { return p.Node != "" || p.Hold }

// seek panics with the first pod that has a node: who calls it is inside of catch.Found.
func seek(s state.State, pack bool) {
	for _, p := range Pending(s) {
		if to, there := score.Choose(s, p, pack); there {
			panic(Bound{Pod: p.Name, To: to})
		}
	}
}
