package trial

import (
	"iter"
	"slices"
	"strconv"
	"strings"

	"ballast/api"
	"ballast/budget"
	"ballast/label"
	"ballast/node"
	"ballast/pod"
	"ballast/res"
	"ballast/state"
	"ballast/taint"
	"ballast/text"
)

// Cluster reads a sound one line by line; lines that are none are a fault of the test's own.
func Cluster(lines ...string) state.State {
	s, line, e := text.Parse(strings.Join(lines, "\n"))
	if e != api.OK {
		panic(strings.Join(lines, "\n") + ": line " + strconv.Itoa(line) + ": " + e.Error())
	}
	return s
}

// Known is the pod of that name; one that is none is a fault of the test's own.
func Known(s state.State, name string) pod.Pod {
	p, there := pod.Find(s.Pods, name)
	if !there {
		panic(name + " is none")
	}
	return p
}

// Comer reads a pod that is in no cluster; words that are none are a fault of the test's own.
func Comer(words string) pod.Pod {
	p, e := pod.Parse(words)
	if e != api.OK {
		panic(words + ": " + e.Error())
	}
	return p
}

// Amounts: that many of 1, with names that begin so.
func Amounts(begin string, count int) res.Vec {
	var v res.Vec
	for i := range count {
		v = append(v, res.Amount{Name: begin + strconv.Itoa(i), N: 1})
	}
	return v
}

// NodeNames are those of all nodes, in order.
func NodeNames(s state.State) []string {
	var l []string
	for _, n := range s.Nodes {
		l = append(l, n.Name)
	}
	return l
}

// Placings are the clusters that have each pod of s nowhere or on any of its nodes, with room there or without.
func Placings(s state.State) iter.Seq[state.State] {
	return func(yield func(state.State) bool) {
		places := append(NodeNames(s), "")
		count := 1
		for range s.Pods {
			count *= len(places)
		}
		for i := range count {
			moved := s
			for _, p := range s.Pods {
				moved = state.Move(moved, p.Name, places[i%len(places)])
				i /= len(places)
			}
			if !yield(moved) {
				return
			}
		}
	}
}

// WithRoom is a list that has spare room with something in it.
func WithRoom[L ~[]T, T any](l L, x T) L {
	return append(slices.Clip(l), x, x)[:len(l)]
}

// Roomy is a cluster all lists of which have spare room, with things in it that would tell, were they read: a node of a domain of its own, and a pod of owner on node on.
func Roomy(s state.State, owner, on string) state.State {
	s.Nodes, s.Pods, s.Budgets = slices.Clone(s.Nodes), slices.Clone(s.Pods), slices.Clone(s.Budgets)
	for i := range s.Nodes {
		n := &s.Nodes[i]
		n.Cap, n.Labels, n.Taints = WithRoom(n.Cap, spareAmount()), WithRoom(n.Labels, sparePair()), WithRoom(n.Taints, taint.Taint{Key: "spare", Val: "spare", Hard: true})
	}
	for i := range s.Pods {
		s.Pods[i] = RoomyPod(s.Pods[i])
	}
	for i := range s.Budgets {
		s.Budgets[i].Sel = WithRoom(s.Budgets[i].Sel, spareTerm())
	}
	s.Nodes = WithRoom(s.Nodes, node.Node{Name: "spare", Labels: label.Set{sparePair()}})
	s.Pods = WithRoom(s.Pods, pod.Pod{Name: "spare", Owner: owner, Need: res.Vec{spareAmount()}, Key: "zone", Most: 1, Node: on})
	s.Budgets = WithRoom(s.Budgets, budget.Budget{Name: "spare"})
	return s
}

// RoomyPod is a pod all lists of which have spare room.
func RoomyPod(p pod.Pod) pod.Pod {
	p.Need, p.Labels = WithRoom(p.Need, spareAmount()), WithRoom(p.Labels, sparePair())
	p.Sel, p.Tols = WithRoom(p.Sel, spareTerm()), WithRoom(p.Tols, taint.Tol{Key: "spare", Val: "spare"})
	return p
}

func spareAmount() res.Amount { return res.Amount{Name: "spare", N: 1} }

func sparePair() label.Pair { return label.Pair{Key: "zone", Val: "spare"} }

func spareTerm() label.Term { return label.Term{Op: label.Has, Key: "spare"} }

// WithSpare has the spare room of all lists in them.
func WithSpare(s state.State) state.State {
	s.Nodes, s.Pods, s.Budgets = whole(s.Nodes), whole(s.Pods), whole(s.Budgets)
	for i, n := range s.Nodes {
		s.Nodes[i].Cap, s.Nodes[i].Labels, s.Nodes[i].Taints = whole(n.Cap), whole(n.Labels), whole(n.Taints)
	}
	for i, p := range s.Pods {
		s.Pods[i] = PodWithSpare(p)
	}
	for i, b := range s.Budgets {
		s.Budgets[i].Sel = whole(b.Sel)
	}
	return s
}

// PodWithSpare has the spare room of all lists in them.
func PodWithSpare(p pod.Pod) pod.Pod {
	p.Need, p.Labels, p.Sel, p.Tols = whole(p.Need), whole(p.Labels), whole(p.Sel), whole(p.Tols)
	return p
}

func whole[L ~[]T, T any](l L) L { return slices.Clone(l[:cap(l)]) }

// Spoil writes into all lists of a cluster, their spare room too.
func Spoil(s state.State) {
	SpoilPods(s.Pods)
	for _, n := range s.Nodes {
		Overwrite(n.Cap, res.Amount{Name: "mine", N: 1})
		Overwrite(n.Labels, label.Pair{Key: "mine"})
		Overwrite(n.Taints, taint.Taint{Key: "mine"})
	}
	for _, b := range s.Budgets {
		Overwrite(b.Sel, label.Term{Key: "mine"})
	}
	Overwrite(s.Nodes, node.Node{Name: "mine"})
	Overwrite(s.Budgets, budget.Budget{Name: "mine"})
}

// SpoilPods writes into all of a list of pods, and into all lists of these.
func SpoilPods(l []pod.Pod) {
	for _, p := range l {
		Overwrite(p.Need, res.Amount{Name: "mine", N: 1})
		Overwrite(p.Labels, label.Pair{Key: "mine"})
		Overwrite(p.Sel, label.Term{Key: "mine"})
		Overwrite(p.Tols, taint.Tol{Key: "mine"})
	}
	Overwrite(l, pod.Pod{Name: "mine"})
}
