package state_test

import (
	"fmt"
	"slices"
	"strconv"
	"strings"
	"testing"

	"ballast/api"
	"ballast/budget"
	"ballast/label"
	"ballast/node"
	"ballast/pod"
	"ballast/res"
	"ballast/state"
	"ballast/taint"
	"ballast/trial"
)

const greatest = 1<<63 - 1

// add reads one line: a kind, and a thing of that kind.
func add(s *state.State, line string) api.Errno {
	kind, text, _ := strings.Cut(line, " ")
	switch kind {
	case "node":
		n, e := node.Parse(text)
		s.Nodes = append(s.Nodes, n)
		return e
	case "pod":
		p, e := pod.Parse(text)
		s.Pods = append(s.Pods, p)
		return e
	case "budget":
		b, e := budget.Parse(text)
		s.Budgets = append(s.Budgets, b)
		return e
	}
	return api.ErrForm
}

// of reads a cluster line by line.
func of(t *testing.T, lines string) state.State {
	t.Helper()
	var s state.State
	for line := range strings.Lines(lines) {
		if e := add(&s, strings.TrimSpace(line)); e != api.OK {
			t.Fatalf("%q: %v", line, e)
		}
	}
	return s
}

// told is a cluster as lines, all of it.
func told(s state.State) string {
	return nodesText(s.Nodes) + podsText(s.Pods) + budgetsText(s.Budgets)
}

func nodesText(l []node.Node) string {
	var b strings.Builder
	for _, n := range l {
		b.WriteString("node " + node.Text(n) + "\n")
	}
	return b.String()
}

func podsText(l []pod.Pod) string {
	var b strings.Builder
	for _, p := range l {
		b.WriteString("pod " + pod.Text(p) + "\n")
	}
	return b.String()
}

func budgetsText(l []budget.Budget) string {
	var b strings.Builder
	for _, x := range l {
		b.WriteString("budget " + budget.Text(x) + "\n")
	}
	return b.String()
}

// wholeText: nodes with several pods, with one, with none; pods on nodes, nowhere, real ones and placeholders; all lists with items.
const wholeText = `node a cpu=10,mem=5 disk:fast,zone:x gpu:yes!,age:old up
node b cpu=7 zone:y - cordon
node c - - - up
pod p web 5 cpu=3 app:web,tier:front zone:x,-gpu gpu:yes,* zone/2 a real
pod q - -1 cpu=2,mem=5 - - - - a hold
pod r web 0 cpu=1 app:web - - - b real
pod s - 0 cpu=100 - - - - - real
budget low app:web,-gpu 2
budget none - 0
`

func whole() state.State {
	var s state.State
	for line := range strings.Lines(wholeText) {
		if e := add(&s, strings.TrimSpace(line)); e != api.OK {
			panic(e)
		}
	}
	return s
}

func changed(change func(s *state.State)) state.State {
	s := whole()
	change(&s)
	return s
}

func amount(name string, n int64) res.Amount { return res.Amount{Name: name, N: n} }

func only(name string, n int64) res.Vec { return res.Vec{amount(name, n)} }

// row: that many things with names that rise.
func row[T any](count int, named func(name string) T) []T {
	var l []T
	for i := range count {
		l = append(l, named("x"+strconv.Itoa(1000+i)))
	}
	return l
}

func nodeNamed(name string) node.Node { return node.Node{Name: name} }

func podNamed(name string) pod.Pod { return pod.Pod{Name: name} }

func budgetNamed(name string) budget.Budget { return budget.Budget{Name: name} }

// empties: clusters of nothing.
func empties() []state.State {
	return []state.State{
		{},
		{Nodes: []node.Node{}},
		{Pods: []pod.Pod{}},
		{Budgets: []budget.Budget{}},
		{Nodes: []node.Node{}, Pods: []pod.Pod{}, Budgets: []budget.Budget{}},
		{Nodes: make([]node.Node, 0, 3), Pods: make([]pod.Pod, 0, 3), Budgets: make([]budget.Budget, 0, 3)},
	}
}

func checks(t *testing.T, want api.Errno, l ...state.State) {
	t.Helper()
	for _, s := range l {
		if e := state.Check(s); e != want {
			t.Errorf("Check(%.600q): %v; want %v", told(s), e, want)
		}
	}
}

func TestP901Check(t *testing.T) {
	checks(t, api.OK, empties()...)
	checks(t, api.OK,
		whole(),
		of(t, "node a - - - up"),
		of(t, "pod p - 0 cpu=9 - - - - - real"),
		of(t, "budget x - 128"),
		// one name for all kinds is none too many
		of(t, "node a a=1 - - up\npod a a 0 a=1 - - - - a real\nbudget a - 0"),
		// who stands where it is not wanted, not borne, too close, or too few, is none the less sound
		of(t, "node a cpu=1 - gpu:yes! cordon\npod p - 0 - - zone:x - zone/1 a real\npod q - 0 - - - - - a real\nbudget x - 9"),
		state.State{Nodes: row(api.MaxNodes, nodeNamed), Pods: row(api.MaxPods, podNamed), Budgets: row(api.MaxList, budgetNamed)},
		state.State{Nodes: []node.Node{{Name: "a", Cap: res.Vec{}}}, Pods: []pod.Pod{{Name: "p", Need: res.Vec{}, Node: "a"}}})
}

func TestP901CheckAsksOfKinds(t *testing.T) {
	checks(t, api.ErrLong, state.State{Nodes: row(33, nodeNamed)}, state.State{Pods: row(129, podNamed)}, state.State{Budgets: row(9, budgetNamed)})
	checks(t, api.ErrOrder,
		of(t, "node b - - - up\nnode a - - - up"), of(t, "node a - - - up\nnode a - - - up"),
		of(t, "pod q - 0 - - - - - - real\npod p - 0 - - - - - - real"), of(t, "pod p - 0 - - - - - - real\npod p - 1 - - - - - - real"),
		of(t, "budget y - 0\nbudget x - 0"), of(t, "budget x - 0\nbudget x a 0"))
	for _, bad := range slices.Concat(trial.NotNames(), trial.Spaced(), []string{"", "-"}) {
		checks(t, api.ErrName,
			state.State{Nodes: []node.Node{nodeNamed(bad)}},
			state.State{Pods: []pod.Pod{podNamed(bad)}},
			state.State{Budgets: []budget.Budget{budgetNamed(bad)}})
	}
}

func TestP901CheckAsksForNodesOfPods(t *testing.T) {
	const nodes = "node b cpu=9 - - up\nnode bb - - - up\n"
	for name, want := range map[string]api.Errno{"b": api.OK, "bb": api.OK, "-": api.OK, "a": api.ErrName, "ba": api.ErrName, "bbb": api.ErrName, "c": api.ErrName, "p": api.ErrName, "x": api.ErrName} {
		for _, kind := range []string{"0 - - - - - " + name + " real", "-1 - - - - - " + name + " hold"} {
			checks(t, want, of(t, nodes+"pod p - "+kind+"\nbudget x - 0"), of(t, nodes+"pod o - 0 - - - - - b real\npod p - "+kind))
		}
	}
	checks(t, api.ErrName, of(t, "pod p - 0 - - - - - a real"))
}

func TestP901CheckRoom(t *testing.T) {
	for _, c := range []struct {
		have string
		want api.Errno
		need []string
	}{
		// just full, and one more
		{"cpu=4", api.OK, []string{"cpu=4"}},
		{"cpu=4", api.ErrRoom, []string{"cpu=5"}},
		{"cpu=4", api.OK, []string{"cpu=1", "cpu=1", "cpu=2"}},
		{"cpu=4", api.ErrRoom, []string{"cpu=1", "cpu=1", "cpu=2", "cpu=1"}},
		{"cpu=4,mem=2", api.OK, []string{"cpu=3", "cpu=1,mem=2"}},
		{"cpu=4,mem=2", api.ErrRoom, []string{"mem=1", "cpu=1,mem=2"}},
		{"cpu=9223372036854775807", api.OK, []string{"cpu=9223372036854775806", "cpu=1"}},
		{"cpu=9223372036854775806", api.ErrRoom, []string{"cpu=9223372036854775806", "cpu=1"}},
		{"a=1,b=1,c=1,d=1,e=1,f=1,g=1,h=1", api.OK, []string{"a=1,b=1,c=1,d=1", "e=1,f=1,g=1,h=1"}},
		{"a=1,b=1,c=1,d=1,e=1,f=1,g=1,h=1", api.ErrRoom, []string{"a=1,b=1,c=1,d=1", "d=1,f=1,g=1,h=1"}},
		// what is not had at all
		{"-", api.OK, nil},
		{"-", api.OK, []string{"-", "-"}},
		{"-", api.ErrRoom, []string{"cpu=1"}},
		{"cpu=4", api.OK, []string{"-", "cpu=4", "-"}},
		{"cpu=4", api.ErrRoom, []string{"-", "mem=1"}},
		// too much to add, too many kinds
		{"cpu=4", api.ErrOver, []string{"cpu=9223372036854775807", "cpu=1"}},
		{"cpu=9223372036854775807", api.ErrOver, []string{"cpu=1", "cpu=9223372036854775807"}},
		{"-", api.ErrLong, []string{"a=1,b=1,c=1,d=1", "e=1,f=1,g=1,h=1", "i=1"}},
	} {
		for _, kind := range []string{"0 real", "-1 hold"} {
			checks(t, c.want, loaded(t, c.have, kind, c.need))
		}
	}
}

// loaded: a node with these pods, between two others.
func loaded(t *testing.T, have, kind string, needs []string) state.State {
	t.Helper()
	prio, word, _ := strings.Cut(kind, " ")
	lines := "node a - - - up\nnode b " + have + " - - up\nnode c - - - up\n"
	for i, need := range needs {
		lines += "pod p" + strconv.Itoa(i) + " - " + prio + " " + need + " - - - - b " + word + "\n"
	}
	return of(t, lines)
}

// Pods that are nowhere take no room, whatever they need.
func TestP901CheckLetsBeWhatIsNowhere(t *testing.T) {
	checks(t, api.OK,
		of(t, "pod p - 0 cpu=9223372036854775807 - - - - - real\npod q - 0 cpu=9223372036854775807 - - - - - real"),
		of(t, "node a cpu=1 - - up\npod p - 0 cpu=1 - - - - a real\npod q - 0 cpu=9 - - - - - real\npod r - -1 cpu=9 - - - - - hold"),
		of(t, "pod p - 0 a=1,b=1,c=1,d=1,e=1 - - - - - real\npod q - 0 f=1,g=1,h=1,i=1 - - - - - real"))
}

func TestP901CheckTotal(t *testing.T) {
	const most = "cpu=9223372036854775807"
	checks(t, api.OK, of(t, "node a "+most+" - - up\nnode b mem=1 - - up"), of(t, "node a cpu=9223372036854775806 - - up\nnode b cpu=1 - - up"), of(t, "node a a=1,b=1,c=1,d=1 - - up\nnode b e=1,f=1,g=1,h=1 - - up\nnode c a=1 - - up"))
	checks(t, api.ErrOver, of(t, "node a "+most+" - - up\nnode b cpu=1 - - cordon"), of(t, "node a cpu=1 - - up\nnode b - - - up\nnode c "+most+" - - up"))
	checks(t, api.ErrLong, of(t, "node a a=1,b=1,c=1,d=1 - - up\nnode b e=1,f=1,g=1,h=1 - - up\nnode c i=1 - - up"))
}

// faults, in the order in which Check asks for them.
func faults() [][]trial.Fault[state.State] {
	type fault = trial.Fault[state.State]
	wrong := trial.Spoilt[state.State]
	return [][]fault{
		{
			wrong(api.ErrLong, func(s *state.State) { s.Nodes = row(33, nodeNamed) }),
			wrong(api.ErrName, func(s *state.State) { s.Nodes[0].Name = "A" }),
			wrong(api.ErrArg, func(s *state.State) { s.Nodes[1].Cap = only("cpu", 0) }),
			wrong(api.ErrOrder, func(s *state.State) { s.Nodes[1].Labels = label.Set{{Key: "b", Val: "x"}, {Key: "a", Val: "x"}} }),
			wrong(api.ErrTwice, func(s *state.State) { s.Nodes[2].Taints = []taint.Taint{{Key: "a", Val: "x"}, {Key: "a", Val: "x"}} }),
			wrong(api.ErrOrder, func(s *state.State) { s.Nodes[2].Name = "b" }),
		},
		{
			wrong(api.ErrLong, func(s *state.State) { s.Pods = row(129, podNamed) }),
			wrong(api.ErrName, func(s *state.State) { s.Pods[3].Node = "-" }),
			wrong(api.ErrArg, func(s *state.State) { s.Pods[0].Hold = true }),
			wrong(api.ErrArg, func(s *state.State) { s.Pods[2].Need = only("cpu", -1) }),
			wrong(api.ErrOrder, func(s *state.State) { s.Pods[3].Name = "r" }),
		},
		{
			wrong(api.ErrLong, func(s *state.State) { s.Budgets = row(9, budgetNamed) }),
			wrong(api.ErrName, func(s *state.State) { s.Budgets[1].Name = "" }),
			wrong(api.ErrArg, func(s *state.State) { s.Budgets[0].Floor = 129 }),
			wrong(api.ErrOrder, func(s *state.State) { s.Budgets[0].Name = "none" }),
		},
		{
			wrong(api.ErrName, func(s *state.State) { s.Pods[0].Node = "z" }),
			wrong(api.ErrName, func(s *state.State) { s.Pods[3].Node = "z" }),
		},
		{
			wrong(api.ErrOver, func(s *state.State) { s.Pods[0].Need = only("cpu", greatest) }),
			wrong(api.ErrLong, func(s *state.State) { s.Pods[0].Need = trial.Amounts("k", 8) }),
			wrong(api.ErrRoom, func(s *state.State) { s.Pods[0].Need = only("cpu", 9) }),
		},
		{
			wrong(api.ErrOver, func(s *state.State) { s.Pods[2].Need, s.Pods[3] = only("cpu", 1), onB(only("cpu", greatest)) }),
			wrong(api.ErrLong, func(s *state.State) { s.Pods[2].Need, s.Pods[3] = only("cpu", 1), onB(trial.Amounts("k", 8)) }),
			wrong(api.ErrRoom, func(s *state.State) { s.Pods[2].Need = only("cpu", 8) }),
		},
		{
			wrong(api.ErrOver, func(s *state.State) { s.Nodes[2].Cap = only("cpu", greatest) }),
			wrong(api.ErrLong, func(s *state.State) { s.Nodes[2].Cap = trial.Amounts("k", 8) }),
		},
	}
}

func onB(need res.Vec) pod.Pod { return pod.Pod{Name: "s", Need: need, Node: "b"} }

func TestP901CheckTellsTheFirstError(t *testing.T) {
	for s, want := range trial.Faulty(whole, faults()) {
		checks(t, want, s)
	}
}

// answered holds what Used or Free answers against what is asked; of an error none is beside it.
func answered(t *testing.T, call string, v res.Vec, e api.Errno, want string) {
	t.Helper()
	if got := res.Text(v) + " " + e.Error(); got != want || e != api.OK && v != nil {
		t.Errorf("%s: %s; want %s", call, got, want)
	}
}

func uses(t *testing.T, s state.State, name, used, free string) {
	t.Helper()
	v, e := state.Used(s, name)
	answered(t, "Used of "+strconv.Quote(name), v, e, used)
	v, e = state.Free(s, name)
	answered(t, "Free of "+strconv.Quote(name), v, e, free)
}

func TestP901UsedAndFree(t *testing.T) {
	s := whole()
	uses(t, s, "a", "cpu=5,mem=5 ok", "cpu=5 ok")
	uses(t, s, "b", "cpu=1 ok", "cpu=6 ok")
	uses(t, s, "c", "- ok", "- ok")
	for _, name := range append(trial.NotNames(), "", " ", "z", "aa", "p", "s", "web", "low", "cpu", "-") {
		uses(t, s, name, "- name", "- name")
		for _, none := range empties() {
			uses(t, none, name, "- name", "- name")
		}
	}
	full := of(t, "node a cpu=4,mem=2 - - cordon\npod p - 0 cpu=1 - - - - a real\npod q - -1 cpu=3,mem=2 - - - - a hold")
	uses(t, full, "a", "cpu=4,mem=2 ok", "- ok")
	part := of(t, "node a cpu=4,disk=9,mem=2 - - up\npod p - 0 disk=1 - - - - a real\npod q - 0 mem=2 - - - - a real\npod r - 0 - - - - - a real")
	uses(t, part, "a", "disk=1,mem=2 ok", "cpu=4,disk=8 ok")
	none := of(t, "node a cpu=4 - - up\npod p - 0 cpu=3 - - - - - real")
	uses(t, none, "a", "- ok", "cpu=4 ok")
}

// Put and Move may make one that is not sound: what is in use is told of that, too.
func TestP901UsedAndFreeOfTooMuch(t *testing.T) {
	s := of(t, "node a cpu=4 - - up\nnode b - - - up\npod p - 0 cpu=3 - - - - a real\npod q - 0 mem=1 - - - - - real\npod r - 0 cpu=2 - - - - - real")
	uses(t, state.Move(s, "r", "a"), "a", "cpu=5 ok", "- over")
	uses(t, state.Move(s, "q", "a"), "a", "cpu=3,mem=1 ok", "- over")
	uses(t, state.Move(s, "p", "b"), "b", "cpu=3 ok", "- over")
	uses(t, state.Move(s, "p", "b"), "a", "- ok", "cpu=4 ok")
	uses(t, state.Move(s, "p", "z"), "z", "- name", "- name")
	uses(t, state.Put(s, pod.Pod{Name: "o", Need: only("cpu", greatest), Node: "a"}), "a", "- over", "- over")
	uses(t, state.Put(s, pod.Pod{Name: "o", Need: only("cpu", greatest-3), Node: "a"}), "a", "cpu=9223372036854775807 ok", "- over")
	uses(t, state.Put(s, pod.Pod{Name: "o", Need: trial.Amounts("k", 8), Node: "a"}), "a", "- long", "- long")
	uses(t, state.Put(s, pod.Pod{Name: "o", Need: trial.Amounts("k", 7), Node: "a"}), "a", "cpu=3,k0=1,k1=1,k2=1,k3=1,k4=1,k5=1,k6=1 ok", "- over")
}

// The Needs are added from the first pod on: the error of the first one with which there is one.
func TestP901UsedTellsTheFirstError(t *testing.T) {
	needs := func(l ...res.Vec) state.State {
		s := state.State{Nodes: []node.Node{{Name: "a", Cap: only("cpu", 1)}}}
		for i, need := range l {
			s.Pods = append(s.Pods, pod.Pod{Name: "p" + strconv.Itoa(i), Need: need, Node: "a"})
		}
		return s
	}
	one, most, kinds := only("cpu", 1), only("cpu", greatest), trial.Amounts("k", 8)
	for _, c := range []struct {
		s    state.State
		want string
	}{
		{needs(one, most, kinds), "- over"},
		{needs(one, kinds, most), "- long"},
		{needs(kinds, one, most), "- long"},
		// of one pod what is too great is ahead of too many
		{needs(one, append(slices.Clone(most), kinds[:7]...)), "- over"},
		{needs(one, append(slices.Clone(most), kinds[:7]...), kinds), "- over"},
		{needs(trial.Amounts("a", 2), append(slices.Clone(one), kinds[:7]...)), "- long"},
	} {
		uses(t, c.s, "a", c.want, c.want)
		if e := state.Check(c.s).Error(); "- "+e != c.want {
			t.Errorf("Check: %s; want %s", e, c.want)
		}
	}
}

func TestP901Total(t *testing.T) {
	for lines, want := range map[string]string{
		wholeText:                 "cpu=17,mem=5 ok",
		"":                        "- ok",
		"node a - - - up":         "- ok",
		"node a cpu=4 - - up":     "cpu=4 ok",
		"node a cpu=4 - - cordon": "cpu=4 ok",
		"node a mem=4 - - up\nnode b cpu=1 - - up":                                                              "cpu=1,mem=4 ok",
		"node a cpu=1,mem=4 - - up\nnode b - - - up\nnode c disk=7,mem=1 - - up":                                "cpu=1,disk=7,mem=5 ok",
		"node a cpu=4 - - up\npod p - 0 cpu=3 - - - - a real":                                                   "cpu=4 ok",
		"pod p - 0 cpu=3 - - - - - real":                                                                        "- ok",
		"node a cpu=9223372036854775806 - - up\nnode b cpu=1 - - up":                                            "cpu=9223372036854775807 ok",
		"node a cpu=9223372036854775807 - - up\nnode b cpu=1 - - up":                                            "- over",
		"node a a=1,b=1,c=1,d=1 - - up\nnode b e=1,f=1,g=1,h=1 - - up":                                          "a=1,b=1,c=1,d=1,e=1,f=1,g=1,h=1 ok",
		"node a a=1,b=1,c=1,d=1,e=1 - - up\nnode b f=1,g=1,h=1,i=1 - - up":                                      "- long",
		"node a a=1,b=1,c=1,d=1,e=1 - - up\nnode b f=1,g=1,h=1,i=1 - - up\nnode c a=9223372036854775807 - - up": "- long",
		"node a a=1,b=1,c=1,d=1,e=1 - - up\nnode b a=9223372036854775807 - - up\nnode c f=1,g=1,h=1,i=1 - - up": "- over",
		"node a a=1,b=1 - - up\nnode b a=9223372036854775807,c=1,d=1,e=1,f=1,g=1,h=1,i=1 - - up":                "- over",
	} {
		v, e := state.Total(of(t, lines))
		answered(t, "Total of "+strconv.Quote(lines), v, e, want)
	}
	for _, none := range empties() {
		v, e := state.Total(none)
		answered(t, "Total of none", v, e, "- ok")
	}
}

// What is free and what is in use on all nodes together is all that there is.
func TestP901UsedAndFreeMakeTotal(t *testing.T) {
	s := whole()
	var sum res.Vec
	for _, n := range s.Nodes {
		used, _ := state.Used(s, n.Name)
		free, _ := state.Free(s, n.Name)
		there, _ := res.Add(used, free)
		if !res.Same(there, n.Cap) {
			t.Errorf("%s: %v and %v", n.Name, used, free)
		}
		sum, _ = res.Add(sum, there)
	}
	if total, _ := state.Total(s); !res.Same(sum, total) {
		t.Errorf("%v; want %v", sum, total)
	}
}

func TestP901On(t *testing.T) {
	s := whole()
	on := func(s state.State, name, want string) {
		t.Helper()
		if l := state.On(s, name); podsText(l) != want {
			t.Errorf("On(%q): %q; want %q", name, podsText(l), want)
		}
	}
	on(s, "a", podsText(s.Pods[:2]))
	on(s, "b", podsText(s.Pods[2:3]))
	for _, name := range append(trial.NotNames(), "", "c", "z", "-", "p", "web", "aa", "low") {
		on(s, name, "")
		for _, none := range empties() {
			on(none, name, "")
		}
	}
	on(state.Move(s, "s", "a"), "a", podsText(s.Pods[:2])+"pod s - 0 cpu=100 - - - - a real\n")
	on(state.Move(s, "r", "a"), "b", "")
	on(state.Move(s, "p", ""), "a", podsText(s.Pods[1:2]))
	on(state.Move(s, "p", ""), "", "")
	on(state.Put(s, pod.Pod{Name: "a0", Node: "a"}), "a", "pod a0 - 0 - - - - - a real\n"+podsText(s.Pods[:2]))
}

// makes: the answer has these pods, and else all that s has; s itself stays as it was.
func makes(t *testing.T, call func(s state.State) state.State, lines, wantPods string) {
	t.Helper()
	s := of(t, lines)
	was := told(s)
	made := call(s)
	if podsText(made.Pods) != wantPods || nodesText(made.Nodes) != nodesText(s.Nodes) || budgetsText(made.Budgets) != budgetsText(s.Budgets) {
		t.Errorf("%q became %q; want of pods %q", was, told(made), wantPods)
	}
	if told(s) != was {
		t.Errorf("what was handed in is %q; was %q", told(s), was)
	}
}

// Three pods, as lines.
const (
	lineB = "pod b own 7 cpu=1 k:v k *:v k/1 n real\n"
	lineD = "pod d - 0 cpu=2 - - - - n real\n"
	lineF = "pod f - -1 - - - - - - hold\n"
	rest  = "node m - zone:x gpu:yes! cordon\nnode n cpu=9 - - up\nbudget x k 1\nbudget y - 0\n"
)

func TestP901Put(t *testing.T) {
	put := func(line string) func(state.State) state.State {
		return func(s state.State) state.State { return state.Put(s, of(t, line).Pods[0]) }
	}
	const all = rest + lineB + lineD + lineF
	for _, c := range []struct{ lines, put, want string }{
		// ahead of all, between, behind all
		{all, "pod a w 3 mem=4 a:b -c d e/9 m real\n", "pod a w 3 mem=4 a:b -c d e/9 m real\n" + lineB + lineD + lineF},
		{all, "pod a1 - 0 - - - - - - real\n", "pod a1 - 0 - - - - - - real\n" + lineB + lineD + lineF},
		{all, "pod ba - 0 - - - - - - real\n", lineB + "pod ba - 0 - - - - - - real\n" + lineD + lineF},
		{all, "pod c - 0 - - - - - - real\n", lineB + "pod c - 0 - - - - - - real\n" + lineD + lineF},
		{all, "pod e - 0 - - - - - - real\n", lineB + lineD + "pod e - 0 - - - - - - real\n" + lineF},
		{all, "pod f0 - 0 - - - - - - real\n", lineB + lineD + lineF + "pod f0 - 0 - - - - - - real\n"},
		{all, "pod g - 1000000 - - - - - - real\n", lineB + lineD + lineF + "pod g - 1000000 - - - - - - real\n"},
		{all, "pod 0 - 0 - - - - - z real\n", "pod 0 - 0 - - - - - z real\n" + lineB + lineD + lineF},
		// instead of one of that Name, with nothing left of it
		{all, "pod b - -1 - - - - - - hold\n", "pod b - -1 - - - - - - hold\n" + lineD + lineF},
		{all, "pod d w 3 mem=4 a:b -c d e/9 m real\n", lineB + "pod d w 3 mem=4 a:b -c d e/9 m real\n" + lineF},
		{all, "pod f - 0 - - - - - n real\n", lineB + lineD + "pod f - 0 - - - - - n real\n"},
		{all, lineD, lineB + lineD + lineF},
		// to none, to one
		{"", lineB, lineB},
		{rest, lineB, lineB},
		{lineD, lineB, lineB + lineD},
		{lineB, lineD, lineB + lineD},
		{lineB, "pod b - 0 - - - - - - real\n", "pod b - 0 - - - - - - real\n"},
	} {
		makes(t, put(c.put), c.lines, c.want)
	}
	for _, none := range empties() {
		if made := state.Put(none, podNamed("p")); told(made) != "pod p - 0 - - - - - - real\n" {
			t.Errorf("Put to none: %q", told(made))
		}
	}
}

func TestP901Drop(t *testing.T) {
	drop := func(name string) func(state.State) state.State {
		return func(s state.State) state.State { return state.Drop(s, name) }
	}
	const all = rest + lineB + lineD + lineF
	for name, want := range map[string]string{"b": lineD + lineF, "d": lineB + lineF, "f": lineB + lineD} {
		makes(t, drop(name), all, want)
		makes(t, drop(name), rest, "")
	}
	for _, name := range append(trial.NotNames(), "", "a", "c", "g", "bb", "n", "m", "x", "own", "-") {
		makes(t, drop(name), all, lineB+lineD+lineF)
		makes(t, drop(name), "", "")
	}
	makes(t, drop("d"), lineD, "")
	for _, none := range empties() {
		if made := state.Drop(none, "p"); told(made) != "" {
			t.Errorf("Drop of none: %q", told(made))
		}
	}
}

func TestP901Move(t *testing.T) {
	move := func(name, to string) func(state.State) state.State {
		return func(s state.State) state.State { return state.Move(s, name, to) }
	}
	const all = rest + lineB + lineD + lineF
	// to a node, to the one it is on, to none, to one that is not there
	makes(t, move("b", "m"), all, "pod b own 7 cpu=1 k:v k *:v k/1 m real\n"+lineD+lineF)
	makes(t, move("d", "m"), all, lineB+"pod d - 0 cpu=2 - - - - m real\n"+lineF)
	makes(t, move("d", "n"), all, lineB+lineD+lineF)
	makes(t, move("d", ""), all, lineB+"pod d - 0 cpu=2 - - - - - real\n"+lineF)
	makes(t, move("d", "z"), all, lineB+"pod d - 0 cpu=2 - - - - z real\n"+lineF)
	makes(t, move("f", "n"), all, lineB+lineD+"pod f - -1 - - - - - n hold\n")
	makes(t, move("f", ""), all, lineB+lineD+lineF)
	makes(t, move("d", "m"), lineD, "pod d - 0 cpu=2 - - - - m real\n")
	for _, name := range append(trial.NotNames(), "", "a", "c", "g", "bb", "n", "m", "x", "own", "-") {
		for _, to := range []string{"m", "n", "", "z"} {
			makes(t, move(name, to), all, lineB+lineD+lineF)
			makes(t, move(name, to), "", "")
		}
	}
	for _, none := range empties() {
		if made := state.Move(none, "p", "a"); told(made) != "" {
			t.Errorf("Move of none: %q", told(made))
		}
	}
}

// Many changes, one behind the other, as a plain table of names and nodes has them.
func TestP901ChangesOneByOne(t *testing.T) {
	s := state.State{Nodes: []node.Node{nodeNamed("m"), nodeNamed("n")}}
	at := map[string]string{}
	nodes := []string{"m", "n", ""}
	for i := range 3000 {
		name, to := "p"+strconv.Itoa(i*i*7%41), nodes[i%3]
		_, there := at[name]
		switch i / 3 * 5 % 7 % 3 {
		case 0:
			s = state.Put(s, pod.Pod{Name: name, Node: to})
			at[name] = to
		case 1:
			s = state.Move(s, name, to)
			if there {
				at[name] = to
			}
		case 2:
			s = state.Drop(s, name)
			delete(at, name)
		}
		if e := state.Check(s); e != api.OK || !stands(s, at) {
			t.Fatalf("%d: %v, %q; want %v", i, e, told(s), at)
		}
	}
}

func stands(s state.State, at map[string]string) bool {
	for _, p := range s.Pods {
		to, there := at[p.Name]
		if !there || p.Node != to {
			return false
		}
	}
	return len(s.Pods) == len(at) && len(s.Nodes) == 2
}

// unlike: clusters each of which differs from all others.
func unlike() []state.State {
	return []state.State{
		whole(),
		changed(func(s *state.State) { s.Nodes = nil }),
		changed(func(s *state.State) { s.Nodes = s.Nodes[:2] }),
		changed(func(s *state.State) { s.Nodes = s.Nodes[1:] }),
		changed(func(s *state.State) { slices.Reverse(s.Nodes) }),
		changed(func(s *state.State) { s.Nodes = append(s.Nodes, node.Node{}) }),
		changed(func(s *state.State) { s.Nodes[2].Name = "d" }),
		changed(func(s *state.State) { s.Nodes[0].Cap[1].N++ }),
		changed(func(s *state.State) { s.Nodes[0].Cap[0].Name = "cpa" }),
		changed(func(s *state.State) { s.Nodes[1].Cap = nil }),
		changed(func(s *state.State) { s.Nodes[0].Labels[1].Val = "y" }),
		changed(func(s *state.State) { s.Nodes[0].Taints[1].Hard = true }),
		changed(func(s *state.State) { s.Nodes[2].Cordon = true }),
		changed(func(s *state.State) { s.Pods = nil }),
		changed(func(s *state.State) { s.Pods = s.Pods[:3] }),
		changed(func(s *state.State) { s.Pods = s.Pods[1:] }),
		changed(func(s *state.State) { slices.Reverse(s.Pods) }),
		changed(func(s *state.State) { s.Pods = append(s.Pods, pod.Pod{}) }),
		changed(func(s *state.State) { s.Pods[3].Name = "t" }),
		changed(func(s *state.State) { s.Pods[0].Owner = "db" }),
		changed(func(s *state.State) { s.Pods[3].Prio = 1 }),
		changed(func(s *state.State) { s.Pods[1].Need[1].N = 6 }),
		changed(func(s *state.State) { s.Pods[0].Labels[0].Key = "apt" }),
		changed(func(s *state.State) { s.Pods[0].Sel[1].Op = label.Has }),
		changed(func(s *state.State) { s.Pods[0].Tols = s.Pods[0].Tols[:1] }),
		changed(func(s *state.State) { s.Pods[0].Key = "disk" }),
		changed(func(s *state.State) { s.Pods[0].Most = 3 }),
		changed(func(s *state.State) { s.Pods[2].Node = "a" }),
		changed(func(s *state.State) { s.Pods[1].Hold = false }),
		changed(func(s *state.State) { s.Budgets = nil }),
		changed(func(s *state.State) { s.Budgets = s.Budgets[:1] }),
		changed(func(s *state.State) { s.Budgets = s.Budgets[1:] }),
		changed(func(s *state.State) { slices.Reverse(s.Budgets) }),
		changed(func(s *state.State) { s.Budgets = append(s.Budgets, budget.Budget{}) }),
		changed(func(s *state.State) { s.Budgets[0].Name = "law" }),
		changed(func(s *state.State) { s.Budgets[0].Floor = 3 }),
		changed(func(s *state.State) { s.Budgets[1].Floor = -1 }),
		changed(func(s *state.State) { s.Budgets[0].Sel = nil }),
		changed(func(s *state.State) { s.Budgets[0].Sel = s.Budgets[0].Sel[:1] }),
		changed(func(s *state.State) { slices.Reverse(s.Budgets[0].Sel) }),
		changed(func(s *state.State) { s.Budgets[0].Sel[0].Op = label.Not }),
		changed(func(s *state.State) { s.Budgets[0].Sel[0].Val = "wed" }),
		changed(func(s *state.State) { s.Budgets[0].Sel[1].Key = "cpu" }),
		{},
		{Nodes: []node.Node{{}}},
		{Pods: []pod.Pod{{}}},
		{Budgets: []budget.Budget{{}}},
		{Budgets: []budget.Budget{{Sel: label.Sel{{}}}}},
	}
}

func TestP901SameOfAllParts(t *testing.T) {
	l := unlike()
	for i, a := range l {
		for j, b := range l {
			if state.Same(a, b) != (i == j) {
				t.Errorf("Same of %d %q and %d %q: %v", i, told(a), j, told(b), i != j)
			}
		}
	}
	for i, again := range unlike() {
		if !state.Same(l[i], again) {
			t.Errorf("Same of two alike, %d: false", i)
		}
	}
}

func TestP901SameOfNoneAndNil(t *testing.T) {
	for _, a := range empties() {
		for _, b := range empties() {
			if !state.Same(a, b) {
				t.Errorf("Same of %#v and %#v: false", a, b)
			}
		}
	}
	nils := state.State{Nodes: []node.Node{nodeNamed("a")}, Pods: []pod.Pod{podNamed("a")}, Budgets: []budget.Budget{budgetNamed("a")}}
	none := state.State{
		Nodes:   []node.Node{{Name: "a", Cap: res.Vec{}, Labels: label.Set{}, Taints: []taint.Taint{}}},
		Pods:    []pod.Pod{{Name: "a", Need: res.Vec{}, Labels: label.Set{}, Sel: label.Sel{}, Tols: []taint.Tol{}}},
		Budgets: []budget.Budget{{Name: "a", Sel: label.Sel{}}},
	}
	if !state.Same(nils, none) || !state.Same(none, nils) {
		t.Error("Same of nil and empty lists: false")
	}
}

// list is one of a cluster's lists: what stands in it, and how it is overwritten, its spare room too.
type list struct {
	tell  func() string
	spoil func()
}

func listOf[T any](l []T, x T) list {
	return list{func() string { return fmt.Sprint(l) }, func() { trial.Overwrite(l, x) }}
}

// rowOf tells names alone: what is in a row's things are lists of their own.
func rowOf[T any](l []T, x T, name func(T) string) list {
	return list{func() string {
		var b strings.Builder
		for _, y := range l {
			b.WriteString(name(y) + " ")
		}
		return b.String()
	}, func() { trial.Overwrite(l, x) }}
}

// listsOf are all lists of a cluster.
func listsOf(s state.State) []list {
	l := append(podLists(s.Pods),
		rowOf(s.Nodes, nodeNamed("mine"), func(n node.Node) string { return n.Name }),
		rowOf(s.Budgets, budgetNamed("mine"), func(b budget.Budget) string { return b.Name }))
	for _, n := range s.Nodes {
		l = append(l, listOf(n.Cap, amount("mine", 7)), listOf(n.Labels, label.Pair{Key: "mine"}), listOf(n.Taints, taint.Taint{Key: "mine"}))
	}
	for _, b := range s.Budgets {
		l = append(l, listOf(b.Sel, label.Term{Key: "mine"}))
	}
	return l
}

func podLists(pods []pod.Pod) []list {
	l := []list{rowOf(pods, podNamed("mine"), func(p pod.Pod) string { return p.Name })}
	for _, p := range pods {
		l = append(l, listOf(p.Need, amount("mine", 7)), listOf(p.Labels, label.Pair{Key: "mine"}), listOf(p.Sel, label.Term{Key: "mine"}), listOf(p.Tols, taint.Tol{Key: "mine"}))
	}
	return l
}

func toldOf(l []list) []string {
	var texts []string
	for _, x := range l {
		texts = append(texts, x.tell())
	}
	return texts
}

// roomy: a cluster all lists of which have spare room, with something in it.
func roomy() state.State { return trial.Roomy(whole(), "web", "a") }

// comer: a pod that has all lists, each with spare room.
func comer(name string) pod.Pod {
	p := trial.RoomyPod(whole().Pods[0])
	p.Name = name
	return p
}

// calls answer clusters, of one handed in and of a pod.
func calls() map[string]func(s state.State, p pod.Pod) state.State {
	return map[string]func(s state.State, p pod.Pod) state.State{
		"Put":          state.Put,
		"Put instead":  func(s state.State, p pod.Pod) state.State { p.Name = "q"; return state.Put(s, p) },
		"Put behind":   func(s state.State, p pod.Pod) state.State { p.Name = "z"; return state.Put(s, p) },
		"Drop":         func(s state.State, _ pod.Pod) state.State { return state.Drop(s, "q") },
		"Drop last":    func(s state.State, _ pod.Pod) state.State { return state.Drop(s, "s") },
		"Drop of none": func(s state.State, _ pod.Pod) state.State { return state.Drop(s, "z") },
		"Move":         func(s state.State, _ pod.Pod) state.State { return state.Move(s, "q", "b") },
		"Move of none": func(s state.State, _ pod.Pod) state.State { return state.Move(s, "z", "b") },
		"Move nowhere": func(s state.State, _ pod.Pod) state.State { return state.Move(s, "q", "") },
		"On":           func(s state.State, _ pod.Pod) state.State { return state.State{Pods: state.On(s, "a")} },
		"Used": func(s state.State, _ pod.Pod) state.State {
			v, _ := state.Used(s, "b")
			return state.State{Pods: []pod.Pod{{Need: v}}}
		},
		"Free": func(s state.State, _ pod.Pod) state.State {
			v, _ := state.Free(s, "b")
			return state.State{Pods: []pod.Pod{{Need: v}}}
		},
		"Free of all": func(s state.State, _ pod.Pod) state.State {
			v, _ := state.Free(state.Move(s, "r", ""), "b")
			return state.State{Pods: []pod.Pod{{Need: v}}}
		},
		"Total": func(s state.State, _ pod.Pod) state.State {
			v, _ := state.Total(state.State{Nodes: s.Nodes[:1]})
			return state.State{Pods: []pod.Pod{{Need: v}}}
		},
	}
}

// What is handed in stays as it was, all its lists and their spare room too.
func TestP2NothingHandedInIsChanged(t *testing.T) {
	before, newcomer := told(trial.WithSpare(roomy())), pod.Text(trial.PodWithSpare(comer("qq")))
	for name, call := range calls() {
		s, p := roomy(), comer("qq")
		call(s, p)
		if told(trial.WithSpare(s)) != before || pod.Text(trial.PodWithSpare(p)) != newcomer {
			t.Errorf("%s: %q became %q, %q became %q", name, before, told(trial.WithSpare(s)), newcomer, pod.Text(trial.PodWithSpare(p)))
		}
	}
	s := roomy()
	state.Check(s)
	state.Same(s, roomy())
	state.Same(roomy(), s)
	if told(trial.WithSpare(s)) != before {
		t.Errorf("%q became %q", before, told(trial.WithSpare(s)))
	}
}

// What comes back is not reached by a change of what was handed in, and reaches it by none.
func TestP2AnswersShareNothingWithWhatWasHandedIn(t *testing.T) {
	for name, call := range calls() {
		s, p := roomy(), comer("qq")
		made := call(s, p)
		was := told(made)
		for _, l := range append(listsOf(s), podLists([]pod.Pod{p})...) {
			l.spoil()
		}
		if told(made) != was {
			t.Errorf("%s: %q became %q", name, was, told(made))
		}
		s, p = roomy(), comer("qq")
		before, newcomer := told(trial.WithSpare(s)), pod.Text(trial.PodWithSpare(p))
		for _, l := range listsOf(call(s, p)) {
			l.spoil()
		}
		if told(trial.WithSpare(s)) != before || pod.Text(trial.PodWithSpare(p)) != newcomer {
			t.Errorf("%s: %q became %q, %q became %q", name, before, told(trial.WithSpare(s)), newcomer, pod.Text(trial.PodWithSpare(p)))
		}
	}
}

// No two lists of one answer share memory, spare room neither.
func TestP2ListsOfOneAnswerShareNothing(t *testing.T) {
	for name, call := range calls() {
		for i := range listsOf(call(roomy(), comer("qq"))) {
			l := listsOf(call(roomy(), comer("qq")))
			was := toldOf(l)
			l[i].spoil()
			is := toldOf(l)
			is[i] = was[i]
			if !slices.Equal(is, was) {
				t.Errorf("%s: %q became %q with list %d", name, was, is, i)
			}
		}
	}
}

// Two things of one list, as of a pod handed in twice, come back with lists of their own.
func TestP2SharedListsComeBackApart(t *testing.T) {
	p, q := comer("p"), comer("q")
	q.Need, q.Labels, q.Sel, q.Tols = p.Need, p.Labels, p.Sel, p.Tols
	for _, made := range []state.State{
		state.Put(state.State{Pods: []pod.Pod{p}}, q),
		state.Drop(state.State{Pods: []pod.Pod{p, q}}, "z"),
		state.Move(state.State{Pods: []pod.Pod{p, q}}, "z", "a"),
		{Pods: state.On(state.State{Pods: []pod.Pod{p, q}}, "a")},
	} {
		was := pod.Text(made.Pods[1])
		for _, l := range podLists(made.Pods[:1:1])[1:] {
			l.spoil()
		}
		if pod.Text(made.Pods[1]) != was {
			t.Errorf("%q became %q", was, pod.Text(made.Pods[1]))
		}
	}
}

func TestP3SameCallsAnswerTheSame(t *testing.T) {
	s := whole()
	for range 3 {
		checks(t, api.OK, s, whole())
		checks(t, api.ErrName, state.Move(s, "p", "z"))
		checks(t, api.ErrRoom, state.Move(s, "s", "a"))
		uses(t, s, "a", "cpu=5,mem=5 ok", "cpu=5 ok")
		uses(t, s, "z", "- name", "- name")
		for name, call := range calls() {
			if first, again := call(s, comer("qq")), call(s, comer("qq")); !state.Same(first, again) {
				t.Errorf("%s: %q and %q", name, told(first), told(again))
			}
		}
	}
}

// Whatever plain data is given, no call goes out by a panic, also where Check refuses what others are handed.
func TestP1EveryCallEnds(t *testing.T) {
	wild := pod.Pod{Name: "\xff", Prio: -1 << 63, Need: res.Vec{{Name: "\xff", N: -1 << 63}, {}, {N: greatest}}, Labels: make(label.Set, 1000), Sel: make(label.Sel, 1000), Tols: make([]taint.Tol, 1000), Key: " ", Most: -1 << 63, Node: "\xff", Hold: true}
	for _, s := range append(unlike(),
		state.State{Nodes: []node.Node{{}, {}, {Name: "\xff", Cap: make(res.Vec, 1000), Labels: make(label.Set, 1000), Taints: make([]taint.Taint, 1000)}, {Name: "\xff"}}, Pods: []pod.Pod{{}, wild, {}, wild, wild}, Budgets: []budget.Budget{{Name: "\xff", Sel: make(label.Sel, 1000), Floor: -1 << 63}, {}, {}}},
		state.State{Nodes: []node.Node{{Name: "b", Cap: only("cpu", -1)}, {Name: "a", Cap: only("cpu", greatest)}, {Name: "b"}}, Pods: []pod.Pod{{Name: "b", Node: "b"}, {Name: "a", Node: "b", Need: only("cpu", -1)}, {Name: "b", Node: "a"}}},
		state.State{Nodes: make([]node.Node, 10000), Pods: make([]pod.Pod, 10000), Budgets: make([]budget.Budget, 10000)},
	) {
		state.Check(s)
		state.Total(s)
		state.Put(s, wild)
		for _, name := range []string{"", "a", "b", "\xff", strings.Repeat("a", 1000)} {
			state.Used(s, name)
			state.Free(s, name)
			state.On(s, name)
			state.Drop(s, name)
			state.Move(s, name, "\xff")
			state.Put(s, podNamed(name))
		}
		state.Same(s, s)
		state.Same(s, whole())
	}
}
