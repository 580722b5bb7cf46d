package fit_test

import (
	"iter"
	"slices"
	"strconv"
	"strings"
	"testing"

	"ballast/api"
	"ballast/fit"
	"ballast/label"
	"ballast/node"
	"ballast/pod"
	"ballast/res"
	"ballast/spread"
	"ballast/state"
	"ballast/taint"
	"ballast/text"
	"ballast/trial"
)

const greatest = 1<<63 - 1

// tells: of p on each node, in order, that word; by all three calls.
func tells(t *testing.T, s state.State, p pod.Pod, want string) {
	t.Helper()
	var told, nodes []string
	for _, e := range fit.Why(s, p) {
		told = append(told, e.Error())
	}
	words := strings.Fields(want)
	if !slices.Equal(told, words) {
		t.Errorf("Why(%q, %q): %q; want %q", text.Text(s), pod.Text(p), told, words)
	}
	for i, n := range s.Nodes {
		if e := fit.Fit(s, p, n.Name); e.Error() != words[i] {
			t.Errorf("Fit(%q, %q, %q): %v; want %s", text.Text(s), pod.Text(p), n.Name, e, words[i])
		}
		if words[i] == "ok" {
			nodes = append(nodes, n.Name)
		}
	}
	if l := fit.Nodes(s, p); !slices.Equal(l, nodes) {
		t.Errorf("Nodes(%q, %q): %q; want %q", text.Text(s), pod.Text(p), l, nodes)
	}
}

func isNone(t *testing.T, s state.State, p pod.Pod, names ...string) {
	t.Helper()
	for _, name := range names {
		if e := fit.Fit(s, p, name); e != api.ErrName {
			t.Errorf("Fit(%q, %q, %q): %v; want name", text.Text(s), pod.Text(p), name, e)
		}
	}
}

func TestP1201NoSuchNode(t *testing.T) {
	s := trial.Cluster("node a cpu=4 zone:x - up", "node b cpu=4 - k:v! cordon", "pod p web 0 cpu=1 - - - zone/1 a real", "pod q web 0 - - - - - - real", "pod h - -1 cpu=1 - - - - a hold", "budget low - 1")
	for _, p := range []pod.Pod{trial.Known(s, "p"), trial.Known(s, "q"), trial.Known(s, "h"), trial.Comer("a - 0 - - - - - - real"), {}} {
		isNone(t, s, p, "", "-", "c", "aa", "A", "a ", " a", "ab", "p", "q", "h", "low", "x", "zone", "cpu")
		isNone(t, state.State{}, p, "", "a", "p")
		isNone(t, trial.Cluster("pod a - 0 - - - - - - real"), p, "", "a", "p")
		isNone(t, state.Move(s, "q", "none"), p, "none", "")
	}
}

func TestP1201Cordoned(t *testing.T) {
	s := trial.Cluster("node a cpu=4 - - up", "node b cpu=4 - - cordon", "node c cpu=4 zone:x - cordon", "node d cpu=4 zone:x - up", "pod p - 0 - - - - - b real", "pod q - 0 - - - - - - real")
	tells(t, s, trial.Known(s, "q"), "ok sel sel ok")
	// it is not wanted there, either, if it is there already
	tells(t, s, trial.Known(s, "p"), "ok sel sel ok")
	tells(t, s, trial.Comer("new - 0 cpu=4 - zone:x * zone/9 - real"), "sel sel sel ok")
	tells(t, s, trial.Comer("new - -1 - - - * - - hold"), "ok sel sel ok")
}

func TestP1201Sel(t *testing.T) {
	s := trial.Cluster("node a - disk:fast,zone:x - up", "node b - zone:y - up", "node c - - - up", "node d - disk:slow,zone:x - up")
	for sel, want := range map[string]string{
		"-":                         "ok ok ok ok",
		"zone:x":                    "ok sel sel ok",
		"zone:z":                    "sel sel sel sel",
		"zone!x":                    "sel ok ok sel",
		"zone":                      "ok ok sel ok",
		"-zone":                     "sel sel ok sel",
		"zone:x,disk:fast":          "ok sel sel sel",
		"disk:fast,zone:y":          "sel sel sel sel",
		"disk:fast,zone:x,zone,-aa": "ok sel sel sel",
		"zone,disk!fast":            "sel ok sel ok",
		"zone!x,zone!y":             "sel sel ok sel",
	} {
		tells(t, s, trial.Comer("new web 0 - - "+sel+" - - - real"), want)
		// labels of its own are none of its node's
		tells(t, s, trial.Comer("new web 0 - disk:fast,zone:y "+sel+" - - - real"), want)
	}
}

func TestP1201Taint(t *testing.T) {
	s := trial.Cluster("node a - - - up", "node b - - k:v! up", "node c - - k:v up", "node d - - k:v,g:h! up", "node e - - g:h!,k:v! up", "node f - - k:v,g:h,a:b up")
	for tols, want := range map[string]string{
		"-":           "ok taint ok taint taint ok",
		"k:v":         "ok ok ok taint taint ok",
		"k":           "ok ok ok taint taint ok",
		"*:v":         "ok ok ok taint taint ok",
		"k:w":         "ok taint ok taint taint ok",
		"v:k":         "ok taint ok taint taint ok",
		"g:h":         "ok taint ok ok taint ok",
		"*:h":         "ok taint ok ok taint ok",
		"k:v,g:h":     "ok ok ok ok ok ok",
		"g,k":         "ok ok ok ok ok ok",
		"*":           "ok ok ok ok ok ok",
		"a,b,c:d,*:v": "ok ok ok taint taint ok",
	} {
		tells(t, s, trial.Comer("new web 0 - - - "+tols+" - - real"), want)
	}
}

// spreadOut: two nodes of zone x, one of y, one that has another label, one that has none.
const spreadOut = `node a - zone:x - up
node b - zone:y - up
node c - rack:x - up
node d - zone:x - up
node e - - - up`

func TestP1201SkewJustMostAndAbove(t *testing.T) {
	// on a and d it would be ahead by 3, on b by none
	s := trial.Cluster(spreadOut, "pod p web 0 - - - - - a real", "pod q web 0 - - - - - d real", "pod r web 0 - - - - - a real", "pod s web 0 - - - - - b real", "pod h web -1 - - - - - b hold")
	for most, want := range map[string]string{
		"1":   "skew ok skew skew skew",
		"2":   "skew ok skew skew skew",
		"3":   "ok ok skew ok skew",
		"4":   "ok ok skew ok skew",
		"128": "ok ok skew ok skew",
	} {
		tells(t, s, trial.Comer("new web 0 - - - - zone/"+most+" - real"), want)
		tells(t, s, trial.Comer("new web -1 - - - - zone/"+most+" - hold"), want)
		// one of another owner, or of none, would be ahead by 1
		tells(t, s, trial.Comer("new db 0 - - - - zone/"+most+" - real"), "ok ok skew ok skew")
		tells(t, s, trial.Comer("new - 0 - - - - zone/"+most+" - real"), "ok ok skew ok skew")
		tells(t, s, trial.Comer("new web 0 - - - - rack/"+most+" - real"), "skew skew ok skew skew")
		tells(t, s, trial.Comer("new web 0 - - - - disk/"+most+" - real"), "skew skew skew skew skew")
	}
}

func TestP1201SkewWithoutKey(t *testing.T) {
	s := trial.Cluster(spreadOut, "pod p web 0 - - - - zone/1 a real", "pod q web 0 - - - - zone/1 a real")
	p := trial.Comer("new web 0 - - - - - - real")
	tells(t, s, p, "ok ok ok ok ok")
	p.Most = -1
	tells(t, s, p, "ok ok ok ok ok")
}

func TestP1201Room(t *testing.T) {
	// free are 3 of cpu alone; all; nothing; nothing; all
	s := trial.Cluster("node a cpu=4,mem=8 - - up", "node b cpu=4,mem=8 - - up", "node c cpu=4 - - up", "node d - - - up", "node e disk=1,gpu=2,mem=9 - - up",
		"pod p - 0 cpu=1,mem=5 - - - - a real", "pod q - -1 mem=3 - - - - a hold", "pod r - 0 cpu=4 - - - - c real", "pod s - 0 cpu=99,disk=99,mem=99 - - - - - real", "pod t - 0 - - - - - d real")
	for need, want := range map[string]string{
		"-":                  "ok ok ok ok ok",
		"cpu=1":              "ok ok room room room",
		"cpu=3":              "ok ok room room room",
		"cpu=4":              "room ok room room room",
		"cpu=5":              "room room room room room",
		"mem=1":              "room ok room room ok",
		"mem=8":              "room ok room room ok",
		"mem=9":              "room room room room ok",
		"cpu=3,mem=1":        "room ok room room room",
		"cpu=4,mem=8":        "room ok room room room",
		"cpu=4,mem=9":        "room room room room room",
		"cpu=5,mem=8":        "room room room room room",
		"cpu=1,gpu=1":        "room room room room room",
		"gpu=1":              "room room room room ok",
		"disk=1,gpu=2,mem=9": "room room room room ok",
		"disk=2,gpu=2,mem=9": "room room room room room",
		"disk=1,gpu=3,mem=9": "room room room room room",
		"a=1,disk=1,mem=9":   "room room room room room",
		"disk=1,mem=9,z=1":   "room room room room room",
	} {
		tells(t, s, trial.Comer("new - 0 "+need+" - - - - - real"), want)
		tells(t, s, trial.Comer("new - -1 "+need+" - - - - - hold"), want)
	}
}

func TestP1201RoomOfTheGreatest(t *testing.T) {
	most := strconv.Itoa(greatest)
	s := trial.Cluster("node a cpu="+most+" - - up", "node b mem=1 - - up", "pod p - 0 cpu=1 - - - - a real")
	for need, want := range map[string]string{most: "room room", strconv.Itoa(greatest - 1): "ok room", "1": "ok room"} {
		tells(t, s, trial.Comer("new - 0 cpu="+need+" - - - - - real"), want)
	}
	tells(t, s, trial.Comer("p - 0 cpu="+most+" - - - - - real"), "ok room")
}

// Where the others need more than there is nothing has room, not even what needs nothing.
func TestP1201NoRoomWhereFreeIsNone(t *testing.T) {
	s := trial.Cluster("node a cpu=4,mem=4 - - up", "node b cpu=4 - - up", "pod p - 0 cpu=3 - - - - a real", "pod q - 0 cpu=3 - - - - - real", "pod r - 0 - - - - - b real")
	over := state.Move(s, "q", "a")
	for _, need := range []string{"-", "mem=1", "cpu=1"} {
		p := trial.Comer("new - 0 " + need + " - - - - - real")
		tells(t, over, p, map[string]string{"-": "room ok", "mem=1": "room room", "cpu=1": "room ok"}[need])
		tells(t, state.Drop(over, "p"), p, map[string]string{"-": "ok ok", "mem=1": "ok room", "cpu=1": "ok ok"}[need])
	}
	tells(t, over, trial.Known(s, "r"), "room ok")
	// each of them alone has
	tells(t, over, trial.Known(over, "p"), "room ok")
	tells(t, over, trial.Known(over, "q"), "room ok")
	tells(t, state.Drop(over, "p"), trial.Known(over, "q"), "ok ok")
	// what they need together cannot be told at all
	for _, need := range []res.Vec{{{Name: "cpu", N: greatest}}, trial.Amounts("x", api.MaxList)} {
		untold := state.Put(s, pod.Pod{Name: "u", Need: need, Node: "a"})
		tells(t, untold, trial.Comer("new - 0 - - - - - - real"), "room ok")
		tells(t, untold, trial.Comer("u - 0 cpu=1 - - - - - real"), "ok ok")
	}
}

// asked is what Fit is asked.
type asked struct {
	s    state.State
	p    pod.Pod
	name string
}

// fitting: a pod that fits node b, beside others.
func fitting() asked {
	s := trial.Cluster("node a cpu=4 zone:x - up", "node b cpu=4,mem=2 disk:fast,zone:y g:h!,k:v up", "node c cpu=4,mem=2 zone:z - up", "pod o web 0 cpu=1 - - - - a real", "pod p web 0 cpu=3,mem=2 - zone,-old g zone/1 c real", "pod q db 0 cpu=1 - - - - b real", "budget low - 3")
	return asked{s, trial.Known(s, "p"), "b"}
}

// reasons are Fit's, in order, each by several faults.
func reasons() [][]trial.Fault[asked] {
	spoilt := trial.Spoilt[asked]
	return [][]trial.Fault[asked]{
		{
			spoilt(api.ErrName, func(x *asked) { x.name = "d" }),
			spoilt(api.ErrName, func(x *asked) { x.name = "" }),
		},
		{
			spoilt(api.ErrSel, func(x *asked) { x.s.Nodes[1].Cordon = true }),
			spoilt(api.ErrSel, func(x *asked) { x.p.Sel = append(x.p.Sel, label.Term{Op: label.Not, Key: "zone", Val: "y"}) }),
			spoilt(api.ErrSel, func(x *asked) {
				x.s.Nodes[1].Labels = append(x.s.Nodes[1].Labels[:1:1], label.Pair{Key: "old", Val: "y"}, label.Pair{Key: "zone", Val: "y"})
			}),
		},
		{
			spoilt(api.ErrTaint, func(x *asked) { x.p.Tols = nil }),
			spoilt(api.ErrTaint, func(x *asked) { x.s.Nodes[1].Taints[1].Hard = true }),
		},
		{
			spoilt(api.ErrSkew, func(x *asked) { x.p.Key = "rack" }),
			spoilt(api.ErrSkew, func(x *asked) {
				x.s = state.Put(x.s, pod.Pod{Name: "n", Owner: "web", Node: "b"})
			}),
		},
		{
			spoilt(api.ErrRoom, func(x *asked) { x.p.Need = res.Vec{{Name: "cpu", N: 4}} }),
			spoilt(api.ErrRoom, func(x *asked) { x.p.Need = res.Vec{{Name: "cpu", N: 3}, {Name: "mem", N: 3}} }),
			spoilt(api.ErrRoom, func(x *asked) { x.p.Need = res.Vec{{Name: "gpu", N: 1}} }),
			spoilt(api.ErrRoom, func(x *asked) {
				x.s = state.Put(x.s, pod.Pod{Name: "m", Need: res.Vec{{Name: "mem", N: 1}}, Node: "b"})
			}),
			spoilt(api.ErrRoom, func(x *asked) {
				x.s = state.Put(x.s, pod.Pod{Name: "m", Need: res.Vec{{Name: "cpu", N: 4}}, Node: "b"})
			}),
		},
	}
}

func isTold(t *testing.T, x asked, want api.Errno) {
	t.Helper()
	if e := fit.Fit(x.s, x.p, x.name); e != want {
		t.Errorf("Fit(%q, %q, %q): %v; want %v", text.Text(x.s), pod.Text(x.p), x.name, e, want)
	}
	i := slices.Index(trial.NodeNames(x.s), x.name)
	if i < 0 {
		return
	}
	if l := fit.Why(x.s, x.p); l[i] != want {
		t.Errorf("Why(%q, %q): %v; want %v", text.Text(x.s), pod.Text(x.p), l, want)
	}
	if l := fit.Nodes(x.s, x.p); slices.Contains(l, x.name) != (want == api.OK) {
		t.Errorf("Nodes(%q, %q): %q", text.Text(x.s), pod.Text(x.p), l)
	}
}

func TestP1201TellsTheFirstReason(t *testing.T) {
	isTold(t, fitting(), api.OK)
	groups := reasons()
	for x, want := range trial.Faulty(fitting, groups) {
		isTold(t, x, want)
	}
	// all that are behind it, too
	x := fitting()
	for _, group := range slices.Backward(groups) {
		group[0].Spoil(&x)
		isTold(t, x, group[0].Want)
	}
}

// What a pod has in use where it stands does not count, by its Name alone.
func TestP1201AsIfNowhere(t *testing.T) {
	s := trial.Cluster("node a cpu=4 zone:x - up", "node b cpu=4 zone:y - up", "node c cpu=2 zone:z - up", "pod p web 0 cpu=4 - - - zone/1 a real", "pod q web 0 cpu=1 - - - zone/1 b real")
	tells(t, s, trial.Known(s, "p"), "ok skew room")
	tells(t, s, trial.Known(s, "q"), "skew ok ok")
	for need, want := range map[string]string{"-": "ok ok ok", "cpu=2": "ok ok ok", "cpu=3": "ok ok room", "cpu=4": "ok room room", "cpu=5": "room room room", "mem=1": "room room room"} {
		tells(t, s, trial.Comer("p db 0 "+need+" - - - - - real"), want)
		tells(t, s, trial.Comer("p db 0 "+need+" - - - - a real"), want)
		tells(t, s, trial.Comer("p db 0 "+need+" - - - - b real"), want)
		tells(t, s, trial.Comer("p db 0 "+need+" - - - - nowhere real"), want)
		tells(t, s, trial.Comer("p db -1 "+need+" - - - - a hold"), want)
	}
	for need, want := range map[string]string{"-": "ok ok ok", "cpu=3": "room ok room", "cpu=4": "room ok room", "cpu=5": "room room room"} {
		tells(t, s, trial.Comer("q db 0 "+need+" - - - - - real"), want)
	}
	// one of another Name has both of them beside it
	for need, want := range map[string]string{"-": "ok ok ok", "cpu=1": "room ok ok", "cpu=3": "room ok room", "cpu=4": "room room room"} {
		tells(t, s, trial.Comer("pp db 0 "+need+" - - - - a real"), want)
	}
	tells(t, s, trial.Comer("pp web 0 - - - - zone/1 a real"), "skew skew ok")
	tells(t, s, trial.Comer("p web 0 - - - - zone/1 - real"), "ok skew ok")
}

// Where it stands alone makes a node too full, or cannot be told, it is as if it were nowhere there, too.
func TestP1201AsIfNowhereWhereItIsTooMuch(t *testing.T) {
	s := trial.Cluster("node a cpu=4 - - up", "node b cpu=9 - - up", "pod o - 0 cpu=1 - - - - a real", "pod p - 0 cpu=9 - - - - - real")
	over := state.Move(s, "p", "a")
	tells(t, over, trial.Known(over, "p"), "room ok")
	tells(t, over, trial.Comer("p - 0 cpu=3 - - - - - real"), "ok ok")
	tells(t, over, trial.Comer("p - 0 - - - - - - real"), "ok ok")
	tells(t, over, trial.Comer("o - 0 - - - - - - real"), "room ok")
}

// Budgets, priorities and labels of pods do not bear on it.
func TestP1201WhateverElseThereIs(t *testing.T) {
	s := trial.Cluster("node a cpu=4 zone:x - up", "node b cpu=4 zone:y - up", "pod p web 0 cpu=3 app:web - - - a real", "pod q web 1000000 cpu=3 app:web - - - - real", "pod h - -1 cpu=3 - - - - b hold", "budget all - 128", "budget web app:web 1")
	tells(t, s, trial.Known(s, "p"), "ok room")
	tells(t, s, trial.Known(s, "q"), "room room")
	tells(t, s, trial.Known(s, "h"), "room ok")
}

func TestP1201Nodes(t *testing.T) {
	s := trial.Cluster("node c cpu=1 zone:x - up", "node a cpu=3 zone:y - up", "node b cpu=2 zone:x - up", "node 10 cpu=3 zone:x - up", "node 9 cpu=3 - - cordon")
	for words, want := range map[string][]string{
		"p - 0 - - - - - - real":           {"10", "a", "b", "c"},
		"p - 0 cpu=2 - - - - - real":       {"10", "a", "b"},
		"p - 0 cpu=3 - - - - - real":       {"10", "a"},
		"p - 0 cpu=3 - zone:x - - - real":  {"10"},
		"p - 0 - - zone:x - - - real":      {"10", "b", "c"},
		"p - 0 cpu=4 - - - - - real":       nil,
		"p - 0 - - -zone - - - real":       nil,
		"p - 0 - - - - rack/9 - real":      nil,
		"p - 0 cpu=1 - zone!x - - - real":  {"a"},
		"p - 0 cpu=1 - - - zone/1 c real":  {"10", "a", "b", "c"},
		"p - -1 cpu=2 - zone:x - - - hold": {"10", "b"},
	} {
		if l := fit.Nodes(s, trial.Comer(words)); !slices.Equal(l, want) {
			t.Errorf("%q: %q; want %q", words, l, want)
		}
	}
	if l := fit.Nodes(state.State{}, trial.Comer("p - 0 - - - - - - real")); len(l) != 0 {
		t.Errorf("%q", l)
	}
}

func TestP1201Why(t *testing.T) {
	s := trial.Cluster("node a cpu=9 - - up", "node b cpu=9 zone:x - cordon", "node c cpu=9 zone:x k:v! up", "node d cpu=9 zone:x - up", "node e cpu=1 zone:y - up", "node f cpu=9 zone:y - up", "pod p web 0 - - - - - d real", "pod q web 0 - - - - - b real")
	for words, want := range map[string][]api.Errno{
		"new web 0 cpu=2 - - - zone/1 - real":    {api.ErrSkew, api.ErrSel, api.ErrTaint, api.ErrSkew, api.ErrRoom, api.OK},
		"new web 0 cpu=2 - zone * zone/1 - real": {api.ErrSel, api.ErrSel, api.ErrSkew, api.ErrSkew, api.ErrRoom, api.OK},
		"new web 0 cpu=1 - - - zone/3 - real":    {api.ErrSkew, api.ErrSel, api.ErrTaint, api.OK, api.OK, api.OK},
		"new web 0 cpu=10 - - - - - real":        {api.ErrRoom, api.ErrSel, api.ErrTaint, api.ErrRoom, api.ErrRoom, api.ErrRoom},
		"new web 0 - - - * - - real":             {api.OK, api.ErrSel, api.OK, api.OK, api.OK, api.OK},
		"new web 0 - - zone:z * - - real":        {api.ErrSel, api.ErrSel, api.ErrSel, api.ErrSel, api.ErrSel, api.ErrSel},
		"new web -1 cpu=2 - -zone k:v - - hold":  {api.OK, api.ErrSel, api.ErrSel, api.ErrSel, api.ErrSel, api.ErrSel},
	} {
		if l := fit.Why(s, trial.Comer(words)); !slices.Equal(l, want) {
			t.Errorf("%q: %v; want %v", words, l, want)
		}
	}
	if l := fit.Why(state.State{}, trial.Comer("new web 0 - - - - - - real")); len(l) != 0 {
		t.Errorf("%v", l)
	}
	if l := fit.Why(trial.Cluster("pod p - 0 - - - - - - real"), trial.Comer("p - 0 - - - - - - real")); len(l) != 0 {
		t.Errorf("%v", l)
	}
}

// eachCluster: four pods, each of them nowhere or on any of the nodes, with room or without.
func eachCluster() iter.Seq[state.State] {
	s := trial.Cluster("node a cpu=3,mem=1 zone:x - up", "node b cpu=4 disk:fast,zone:y k:v! up", "node c cpu=2 zone:x k:v up", "node d cpu=9 - - up", "node e cpu=9 zone:z - cordon",
		"pod p web 0 cpu=1 - - * zone/1 - real", "pod q web 0 cpu=2 - -disk k zone/2 - real", "pod r web -1 cpu=2 - zone - - - hold", "pod s db 5 cpu=1,mem=1 - - *:v - - real")
	return trial.Placings(s)
}

// In a sound cluster a pod fits where it would stand well if it were there, and the cluster be sound.
func TestP1201IsWhatBeingThereTells(t *testing.T) {
	for s := range eachCluster() {
		if state.Check(s) != api.OK {
			continue
		}
		for _, p := range s.Pods {
			var want []string
			for _, n := range s.Nodes {
				want = append(want, beingThere(s, p, n).Error())
			}
			tells(t, s, p, strings.Join(want, " "))
		}
	}
}

func beingThere(s state.State, p pod.Pod, n node.Node) api.Errno {
	there := state.Move(s, p.Name, n.Name)
	_, worst := taint.Worst(p.Tols, n.Taints)
	switch {
	case n.Cordon, !label.Match(p.Sel, n.Labels):
		return api.ErrSel
	case worst:
		return api.ErrTaint
	case slices.Contains(spread.Bad(there), p.Name):
		return api.ErrSkew
	}
	return state.Check(there)
}

// At the limits: all nodes and all pods, each list as long as it may be.
func TestP1201AtTheLimits(t *testing.T) {
	var s state.State
	for i := range api.MaxNodes {
		s.Nodes = append(s.Nodes, node.Node{Name: "n" + strconv.Itoa(100+i), Cap: trial.Amounts("x", api.MaxList), Labels: label.Set{{Key: "zone", Val: "v" + strconv.Itoa(i)}}})
	}
	for i := range api.MaxPods {
		s.Pods = append(s.Pods, pod.Pod{Name: "p" + strconv.Itoa(1000+i), Owner: "web", Key: "zone", Most: 1, Node: s.Nodes[i%api.MaxNodes].Name})
	}
	if e := state.Check(s); e != api.OK {
		t.Fatal(e)
	}
	// one that goes leaves its own domain behind all others
	p := s.Pods[5]
	p.Need = trial.Amounts("x", api.MaxList)
	tells(t, s, p, strings.Repeat("skew ", 5)+"ok"+strings.Repeat(" skew", api.MaxNodes-6))
	p.Most = 2
	tells(t, s, p, strings.Repeat("ok ", api.MaxNodes))
	s = state.Put(s, pod.Pod{Name: "p1000", Owner: "db", Need: trial.Amounts("x", 1), Node: "n131"})
	tells(t, s, p, "ok "+strings.Repeat("ok ", api.MaxNodes-2)+"room")
}

// roomy: a cluster and a pod, all lists of which have spare room; what is there would tell, were it read.
func roomy() (state.State, pod.Pod) {
	s := trial.Cluster("node a cpu=3 zone:x - up", "node b cpu=3,mem=2 zone:y k:v! up", "node c cpu=9 - - up", "node d cpu=3 zone:x k:v cordon", "node e cpu=4 zone:y - up",
		"pod o web 0 cpu=1 - - - - a real", "pod p web 5 cpu=3 app:web zone,-gpu k,x:y zone/1 e real", "pod q db 0 cpu=1 - - - - e real", "budget low app:web 1")
	return trial.Roomy(s, "web", "b"), trial.RoomyPod(trial.Known(s, "p"))
}

const roomyTold = "skew ok sel sel ok"

func TestP2NothingHandedInIsChanged(t *testing.T) {
	s, p := roomy()
	before, podBefore := roomy()
	for name, call := range map[string]func(){
		"Fit":         func() { fit.Fit(s, p, "e") },
		"Fit of none": func() { fit.Fit(s, p, "g") },
		"Fit nowhere": func() { fit.Fit(s, p, "c") },
		"Nodes":       func() { fit.Nodes(s, p) },
		"Why":         func() { fit.Why(s, p) },
	} {
		call()
		if !state.Same(trial.WithSpare(s), trial.WithSpare(before)) || !pod.Same(trial.PodWithSpare(p), trial.PodWithSpare(podBefore)) {
			t.Errorf("%s: %q became %q, %q became %q", name, text.Text(before), text.Text(s), pod.Text(podBefore), pod.Text(p))
		}
	}
	tells(t, s, p, roomyTold)
}

// No answer is reached by a change of another one, nor by one of what was handed in.
func TestP2AnswersNewMemory(t *testing.T) {
	s, p := roomy()
	nodes, why := fit.Nodes(s, p), fit.Why(s, p)
	trial.Overwrite(fit.Nodes(s, p), "mine")
	trial.Overwrite(fit.Why(s, p), api.ErrFuel)
	tells(t, s, p, roomyTold)
	trial.Overwrite(s.Nodes, node.Node{Name: "mine"})
	trial.Overwrite(s.Pods, pod.Pod{Name: "mine"})
	if !slices.Equal(nodes, []string{"b", "e"}) || !slices.Equal(why, []api.Errno{api.ErrSkew, api.OK, api.ErrSel, api.ErrSel, api.OK}) {
		t.Errorf("%q, %v", nodes, why)
	}
}

func TestP3SameCallsAnswerTheSame(t *testing.T) {
	s, p := roomy()
	for range 3 {
		tells(t, s, p, roomyTold)
		isNone(t, s, p, "g", "")
		// what was asked of another cluster, or of another pod, is not kept
		tells(t, state.State{}, p, "")
		tells(t, s, trial.Comer("p - 0 - - - - - - real"), "ok taint ok sel ok")
		tells(t, state.Drop(s, "o"), p, "ok ok sel sel ok")
	}
}

// Whatever plain data is given, no call goes out by a panic, also where state.Check or pod.Check refuses it.
func TestP1EveryCallEnds(t *testing.T) {
	for _, s := range trial.WildClusters() {
		for _, p := range trial.WildPods() {
			for _, name := range []string{"", "\xff", "a", strings.Repeat("a", 1<<20)} {
				fit.Fit(s, p, name)
			}
			if why, nodes := fit.Why(s, p), fit.Nodes(s, p); len(why) != len(s.Nodes) || len(nodes) > len(why) {
				t.Errorf("%d nodes: %v, %q", len(s.Nodes), why, nodes)
			}
		}
	}
}
