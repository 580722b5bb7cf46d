package preempt

import (
	"slices"

	"ballast/api"
	"ballast/fit"
	"ballast/pod"
	"ballast/sched"
	"ballast/state"
)

// place is a node, the Holds that have gone from it, and the cluster without them.
type place struct {
	node string
	gone []string
	rest state.State
}

// seek panics with the first Way of the fewest Holds, as in each turn all places have one more gone than in the turn ahead. Who calls it is inside of catch.Found.
func seek(s state.State, p pod.Pod) {
	for l := places(s, p); len(l) > 0; l = withOneMoreGone(l) {
		for _, x := range l {
			if fit.Fit(x.rest, p, x.node) == api.OK {
				panic(Way{Pod: p.Name, To: x.node, Holds: x.gone})
			}
		}
	}
}

// seekPending panics with the first Way that a pending pod has: who calls it is inside of catch.Found.
func seekPending(s state.State) {
	for _, p := range sched.Pending(s) {
		if w, there := For(s, p); there {
			panic(w)
		}
	}
}

// places are the nodes that p fits when all Holds are gone, so that none is dropped where it would go for nothing. All are left out at once: those of other nodes bear neither on a node's room nor on how p is spread.
func places(s state.State, p pod.Pod) []place {
	var l []place
	for _, name := range fit.Nodes(withoutHolds(s), p) {
		l = append(l, place{node: name, rest: s})
	}
	return l
}

func withoutHolds(s state.State) state.State {
	s.Pods = slices.DeleteFunc(slices.Clone(s.Pods), isHold)
	return s
}

func isHold(p pod.Pod) bool { return p.Hold }

// withOneMoreGone leaves out the places where no Hold is left, so that the turns end.
func withOneMoreGone(l []place) []place {
	var next []place
	for _, x := range l {
		on := state.On(x.rest, x.node)
		if i := slices.IndexFunc(on, isHold); i >= 0 {
			name := on[i].Name
			next = append(next, place{x.node, append(x.gone, name), state.Drop(x.rest, name)})
		}
	}
	return next
}
