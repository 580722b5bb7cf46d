package trial

import (
	"math"
	"slices"

	"ballast/budget"
	"ballast/label"
	"ballast/node"
	"ballast/pod"
	"ballast/res"
	"ballast/state"
	"ballast/taint"
)

// odd is a name that is none.
const odd = "\xff"

// WildPods: plain data that may be given, whatever pod.Check says of it.
func WildPods() []pod.Pod {
	return []pod.Pod{
		{},
		{Name: odd, Owner: odd, Prio: math.MinInt, Need: res.Vec{{Name: odd, N: math.MinInt64}, {}, {N: math.MaxInt64}}, Labels: make(label.Set, 1000), Sel: label.Sel{{Op: -7}, {Op: label.Is}}, Tols: make([]taint.Tol, 1000), Key: odd, Most: math.MinInt, Node: odd, Hold: true},
		{Owner: odd, Need: res.Vec{{Name: "cpu", N: math.MaxInt64}}, Key: odd, Most: math.MaxInt, Node: odd},
		{Name: "a", Key: odd, Owner: odd},
		{Key: odd},
		{Node: odd},
		{Name: "a", Node: "a", Need: res.Vec{{Name: "cpu", N: -5}}},
	}
}

func wildNodes() []node.Node {
	return []node.Node{
		{},
		{Name: odd, Cap: res.Vec{{Name: "cpu", N: -1}, {N: math.MinInt64}}, Labels: label.Set{{Key: odd}, {}}},
		{Name: odd, Cap: make(res.Vec, 1000), Taints: make([]taint.Taint, 1000)},
		{Labels: make(label.Set, 1000)},
		{Name: "a", Cap: res.Vec{{Name: "cpu", N: math.MaxInt64}}, Taints: []taint.Taint{{Hard: true}, {}, {Hard: true}}},
	}
}

// WildClusters: plain data that may be given, whatever state.Check says of it.
func WildClusters() []state.State {
	return []state.State{
		{},
		{Nodes: wildNodes()},
		{Pods: WildPods()},
		{Nodes: wildNodes(), Pods: slices.Concat(WildPods(), WildPods())},
		{Nodes: slices.Repeat(wildNodes(), 50), Pods: slices.Repeat(WildPods(), 10)},
		{Nodes: make([]node.Node, 300), Pods: make([]pod.Pod, 300), Budgets: make([]budget.Budget, 300)},
	}
}
