package spread

import (
	"maps"
	"slices"

	"ballast/api"
	"ballast/label"
	"ballast/pod"
	"ballast/state"
)

// beside: p itself is told anew wherever it is asked for, so it does not count where it stands by now.
func beside(p, other pod.Pod) bool {
	return p.Owner != "" && other.Owner == p.Owner && !other.Hold && other.Name != p.Name
}

// tally has each domain of p's Key, with how many stand in it beside p; those where nobody does are there, too, as they may have the least.
func tally(s state.State, p pod.Pod) map[string]int {
	onNode := map[string]int{}
	for _, other := range s.Pods {
		if beside(p, other) {
			onNode[other.Node]++
		}
	}
	counts := map[string]int{}
	for _, n := range s.Nodes {
		if domain, there := label.Get(n.Labels, p.Key); there {
			counts[domain] += onNode[n.Name]
		}
	}
	return counts
}

// domainOf panics where there is none, as valOf and skewOn do: who calls them is inside of catch.Errno.
func domainOf(s state.State, key, name string) string {
	for _, n := range s.Nodes {
		if n.Name == name {
			return valOf(n.Labels, key)
		}
	}
	panic(api.ErrName)
}

func valOf(l label.Set, key string) string {
	val, there := label.Get(l, key)
	if !there {
		panic(api.ErrName)
	}
	return val
}

func skewOn(s state.State, p pod.Pod, name string) int {
	own := domainOf(s, p.Key, name)
	counts := tally(s, p)
	counts[own]++
	return counts[own] - slices.Min(slices.Collect(maps.Values(counts)))
}

func standsBadly(s state.State, p pod.Pod) bool {
	if p.Node == "" || p.Key == "" {
		return false
	}
	skew, there := Skew(s, p, p.Node)
	return !there || skew > p.Most
}
