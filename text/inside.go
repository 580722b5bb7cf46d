package text

import (
	"cmp"
	"slices"
	"strings"

	"ballast/api"
	"ballast/budget"
	"ballast/catch"
	"ballast/node"
	"ballast/pod"
	"ballast/state"
)

const (
	nodeWord   = "node"
	podWord    = "pod"
	budgetWord = "budget"
	blank      = " "
	remark     = "#"
	end        = "\n"
)

func tell[T any](b *strings.Builder, word string, l []T, text func(T) string) {
	for _, x := range l {
		b.WriteString(word + blank + text(x) + end)
	}
}

// reader has what the lines so far made, each kind in order of names, and how many they were: where an error goes out, that is its line.
type reader struct {
	made state.State
	line int
}

// read panics with the first error, as take and with do: who calls it is inside of catch.Errno.
func (r *reader) read(s string) state.State {
	for line := range strings.Lines(s) {
		r.take(strings.TrimSuffix(line, end))
		r.line++
	}
	return catch.Sound(r.made, state.Check(r.made))
}

func (r *reader) take(line string) {
	if line == "" || strings.HasPrefix(line, remark) {
		return
	}
	word, rest, _ := strings.Cut(line, blank)
	switch word {
	case nodeWord:
		r.made.Nodes = with(r.made.Nodes, catch.Sound(node.Parse(rest)), nodeName, api.MaxNodes)
	case podWord:
		r.made.Pods = with(r.made.Pods, catch.Sound(pod.Parse(rest)), podName, api.MaxPods)
	case budgetWord:
		r.made.Budgets = with(r.made.Budgets, catch.Sound(budget.Parse(rest)), budgetName, api.MaxList)
	default:
		panic(api.ErrForm)
	}
}

// with is l, its names rising, with x in its place; that a name is there already is told ahead of too many.
func with[T any](l []T, x T, name func(T) string, most int) []T {
	at, there := slices.BinarySearchFunc(l, name(x), func(y T, sought string) int { return cmp.Compare(name(y), sought) })
	switch {
	case there:
		panic(api.ErrTwice)
	case len(l) == most:
		panic(api.ErrLong)
	}
	return slices.Insert(l, at, x)
}

func nodeName(n node.Node) string { return n.Name }

func podName(p pod.Pod) string { return p.Name }

func budgetName(b budget.Budget) string { return b.Name }
