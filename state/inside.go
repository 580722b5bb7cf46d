package state

import (
	"cmp"
	"slices"

	"ballast/api"
	"ballast/budget"
	"ballast/catch"
	"ballast/node"
	"ballast/pod"
	"ballast/res"
)

// checked panics with what is wrong with s: who calls it is inside of catch.Errno. So are all below that panic.
func checked(s State) State {
	refuse(cmp.Or(node.CheckAll(s.Nodes), pod.CheckAll(s.Pods), budget.CheckAll(s.Budgets)))
	for _, p := range s.Pods {
		if p.Node != "" {
			nodeOf(s, p.Node)
		}
	}
	for _, n := range s.Nodes {
		if !res.Fits(used(s, n), n.Cap) {
			panic(api.ErrRoom)
		}
	}
	total(s)
	return s
}

func refuse(e api.Errno) {
	if e != api.OK {
		panic(e)
	}
}

func nodeOf(s State, name string) node.Node {
	n, there := node.Find(s.Nodes, name)
	if !there {
		panic(api.ErrName)
	}
	return n
}

// used tells the error of the first pod with which there is one, whatever those behind it need.
func used(s State, n node.Node) res.Vec {
	var sum res.Vec
	for _, p := range s.Pods {
		if p.Node == n.Name {
			sum = catch.Sound(res.Add(sum, p.Need))
		}
	}
	return sum
}

func total(s State) res.Vec {
	var sum res.Vec
	for _, n := range s.Nodes {
		sum = catch.Sound(res.Add(sum, n.Cap))
	}
	return sum
}

func indexOf(l []pod.Pod, name string) int {
	return slices.IndexFunc(l, func(p pod.Pod) bool { return p.Name == name })
}

// placeOf: ahead of the first one with a greater name.
func placeOf(l []pod.Pod, name string) int {
	if i := slices.IndexFunc(l, func(p pod.Pod) bool { return p.Name > name }); i >= 0 {
		return i
	}
	return len(l)
}

// owned takes lists of its own, all the way down: an answer shares no memory with what was handed in.
func owned(s State) State {
	return State{Nodes: each(s.Nodes, ownedNode), Pods: each(s.Pods, ownedPod), Budgets: each(s.Budgets, ownedBudget)}
}

func each[T any](l []T, own func(T) T) []T {
	made := slices.Clone(l)
	for i, x := range made {
		made[i] = own(x)
	}
	return made
}

func ownedNode(n node.Node) node.Node {
	n.Cap = slices.Clone(n.Cap)
	n.Labels = slices.Clone(n.Labels)
	n.Taints = slices.Clone(n.Taints)
	return n
}

func ownedPod(p pod.Pod) pod.Pod {
	p.Need = slices.Clone(p.Need)
	p.Labels = slices.Clone(p.Labels)
	p.Sel = slices.Clone(p.Sel)
	p.Tols = slices.Clone(p.Tols)
	return p
}

func ownedBudget(b budget.Budget) budget.Budget {
	b.Sel = slices.Clone(b.Sel)
	return b
}

func sameBudget(a, b budget.Budget) bool {
	return a.Name == b.Name && slices.Equal(a.Sel, b.Sel) && a.Floor == b.Floor
}
