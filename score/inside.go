package score

import (
	"ballast/fit"
	"ballast/node"
	"ballast/pod"
	"ballast/rank"
	"ballast/ratio"
	"ballast/res"
	"ballast/state"
	"ballast/taint"
)

// nodeOf: a node that is none has nothing, so that what is told of it is NaN, as 0 by 0 is and the mean of none.
func nodeOf(s state.State, name string) node.Node {
	for _, n := range s.Nodes {
		if n.Name == name {
			return n
		}
	}
	return node.Node{}
}

// usedOn: beside an error there is nothing, so that it is as if nothing were used.
func usedOn(s state.State, name string) res.Vec {
	used, _ := state.Used(s, name)
	return used
}

func usage(used, has res.Vec, what string) float64 {
	return ratio.Of(res.Get(used, what), res.Get(has, what))
}

func meanUsage(s state.State, name string) float64 {
	used, has := usedOn(s, name), nodeOf(s, name).Cap
	var l []float64
	for _, a := range has {
		l = append(l, usage(used, has, a.Name))
	}
	return ratio.Mean(l)
}

// alone is that node with its pods: no others bear on what is in use there, and Put copies all that it is handed.
func alone(s state.State, name string) state.State {
	return state.State{Nodes: []node.Node{nodeOf(s, name)}, Pods: state.On(s, name)}
}

func marks(s state.State, p pod.Pod) []rank.Mark {
	var l []rank.Mark
	for _, name := range fit.Nodes(s, p) {
		l = append(l, rank.Mark{Name: name, Soft: taint.Soft(p.Tols, nodeOf(s, name).Taints), Score: Of(s, p, name)})
	}
	return l
}
