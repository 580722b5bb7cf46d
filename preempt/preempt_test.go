package preempt_test

import (
	"slices"
	"strconv"
	"strings"
	"testing"

	"ballast/api"
	"ballast/budget"
	"ballast/fit"
	"ballast/node"
	"ballast/pod"
	"ballast/preempt"
	"ballast/res"
	"ballast/sched"
	"ballast/state"
	"ballast/text"
	"ballast/trial"
)

const greatest = 1<<63 - 1

// said is a Way as words: pod and node, then the Holds.
func said(w preempt.Way) string {
	return strings.Join(append([]string{w.Pod + ">" + w.To}, w.Holds...), " ")
}

// isTold: that Way; of an empty want none, and nothing beside the false.
func isTold(t *testing.T, call string, w preempt.Way, there bool, want string) {
	t.Helper()
	if there != (want != "") || there && said(w) != want || !there && (w.Pod != "" || w.To != "" || len(w.Holds) > 0) {
		t.Errorf("%s: %q, %t; want %q", call, said(w), there, want)
	}
}

// has: of p that Way.
func has(t *testing.T, s state.State, p pod.Pod, want string) {
	t.Helper()
	w, there := preempt.For(s, p)
	isTold(t, "For("+strconv.Quote(text.Text(s))+", "+pod.Text(p)+")", w, there, want)
}

// hasOf: of the pod that is written so that Way.
func hasOf(t *testing.T, s state.State, words, want string) {
	t.Helper()
	has(t, s, trial.Comer(words), want)
}

func isNext(t *testing.T, s state.State, want string) {
	t.Helper()
	w, there := preempt.Next(s)
	isTold(t, "Next("+strconv.Quote(text.Text(s))+")", w, there, want)
}

// wayOf reads a Way as it is said.
func wayOf(words string) preempt.Way {
	l := strings.Split(words, " ")
	name, to, _ := strings.Cut(l[0], ">")
	return preempt.Way{Pod: name, To: to, Holds: l[1:]}
}

// makes: that Way done, the cluster becomes that one.
func makes(t *testing.T, s state.State, words, want string) {
	t.Helper()
	if made := text.Text(preempt.Do(s, wayOf(words))); made != want {
		t.Errorf("Do(%q, %q): %q; want %q", text.Text(s), words, made, want)
	}
}

// held: three nodes, the first with two placeholders, the second with three, the third with one and with a real pod.
func held() state.State {
	return trial.Cluster("node a cpu=8 - - up", "node b cpu=12 - - up", "node c cpu=6 - - up",
		"pod f - -1 cpu=3 - - - - a hold", "pod g - -1 cpu=5 - - - - a hold",
		"pod h - -1 cpu=4 - - - - b hold", "pod i - -1 cpu=2 - - - - b hold", "pod j - -1 cpu=6 - - - - b hold",
		"pod k - -1 cpu=2 - - - - c hold", "pod r - 0 cpu=4 - - - - c real", "pod z - -1 cpu=1 - - - - - hold")
}

func TestP1501ForFewestHolds(t *testing.T) {
	s := held()
	for need, want := range map[string]string{
		"-":      "p>a",
		"cpu=1":  "p>a f",
		"cpu=2":  "p>a f",
		"cpu=3":  "p>a f",
		"cpu=4":  "p>b h",
		"cpu=5":  "p>a f g",
		"cpu=8":  "p>a f g",
		"cpu=9":  "p>b h i j",
		"cpu=12": "p>b h i j",
		"cpu=13": "",
		"gpu=1":  "",
	} {
		hasOf(t, s, "p - 5 "+need+" - - - - - real", want)
		hasOf(t, s, "p - 0 "+need+" - - - - - real", want)
	}
	// with the least on c gone that fits where the others have the fewest
	s = state.Drop(s, "r")
	hasOf(t, s, "p - 0 cpu=4 - - - - - real", "p>c")
	hasOf(t, s, "p - 0 cpu=5 - - - - - real", "p>c k")
	hasOf(t, s, "p - 0 cpu=6 - - - - - real", "p>c k")
	hasOf(t, s, "p - 0 cpu=7 - - - - - real", "p>a f g")
}

// How many go is told by their count, not by what they need.
func TestP1501ForFewestByCount(t *testing.T) {
	s := trial.Cluster("node a cpu=9 - - up", "node b cpu=900 - - up", "pod f - -1 cpu=4 - - - - a hold", "pod g - -1 cpu=4 - - - - a hold", "pod h - -1 cpu=900 - - - - b hold")
	hasOf(t, s, "p - 0 cpu=5 - - - - - real", "p>a f")
	hasOf(t, s, "p - 0 cpu=6 - - - - - real", "p>b h")
}

// Of nodes where as many go the first one is taken, be its placeholders the lesser or the greater.
func TestP1501ForFirstNode(t *testing.T) {
	s := trial.Cluster("node b cpu=4 - - up", "node 10 cpu=2 - - up", "node 9 cpu=4 - - up", "node a cpu=9 - - up",
		"pod f - -1 cpu=4 - - - - b hold", "pod g - -1 cpu=4 - - - - 9 hold", "pod h - -1 cpu=1 - - - - a hold", "pod i - -1 cpu=8 - - - - a hold", "pod j - -1 cpu=2 - - - - 10 hold")
	for need, want := range map[string]string{"-": "p>10", "cpu=1": "p>10 j", "cpu=2": "p>10 j", "cpu=3": "p>9 g", "cpu=4": "p>9 g", "cpu=5": "p>a h i", "cpu=9": "p>a h i", "cpu=10": ""} {
		hasOf(t, s, "p - 0 "+need+" - - - - - real", want)
	}
	hasOf(t, state.Move(s, "g", ""), "p - 0 cpu=3 - - - - - real", "p>9")
	hasOf(t, state.Put(s, trial.Comer("g - 0 cpu=4 - - - - 9 real")), "p - 0 cpu=3 - - - - - real", "p>b f")
	hasOf(t, state.Drop(s, "j"), "p - 0 cpu=1 - - - - - real", "p>10")
	hasOf(t, state.Drop(s, "f"), "p - 0 cpu=1 - - - - - real", "p>b")
	hasOf(t, state.Drop(state.Drop(s, "f"), "g"), "p - 0 cpu=1 - - - - - real", "p>9")
}

// Where it fits without any none goes, whatever nodes stand ahead.
func TestP1501ForWithoutHolds(t *testing.T) {
	s := trial.Cluster("node a cpu=8 - - up", "node b cpu=8 - - up", "node c cpu=8 - - up", "node d cpu=8 - - up",
		"pod f - -1 cpu=8 - - - - a hold", "pod g - -1 cpu=5 - - - - b hold", "pod h - -1 cpu=2 - - - - c hold")
	for need, want := range map[string]string{"-": "p>a", "cpu=1": "p>b", "cpu=3": "p>b", "cpu=4": "p>c", "cpu=6": "p>c", "cpu=7": "p>d", "cpu=8": "p>d", "cpu=9": ""} {
		hasOf(t, s, "p - 0 "+need+" - - - - - real", want)
	}
	// the first one, not the one that score would choose
	if b, _ := sched.Next(state.Put(s, trial.Comer("p - 0 cpu=1 - - - - - real")), false); b.To != "d" {
		t.Errorf("%v", b)
	}
}

// They go in order of their names, until it fits: none that is greater is taken first, none that is not needed by then goes, too.
func TestP1501ForInOrder(t *testing.T) {
	s := trial.Cluster("node a cpu=10 - - up", "pod x1 - -1 cpu=1 - - - - a hold", "pod x10 - -1 cpu=2 - - - - a hold", "pod x2 - -1 cpu=3 - - - - a hold", "pod x3 - -1 - - - - - a hold", "pod x4 - -1 cpu=4 - - - - a hold")
	for need, want := range map[string]string{
		"-":      "p>a",
		"cpu=1":  "p>a x1",
		"cpu=2":  "p>a x1 x10",
		"cpu=3":  "p>a x1 x10",
		"cpu=4":  "p>a x1 x10 x2",
		"cpu=6":  "p>a x1 x10 x2",
		"cpu=7":  "p>a x1 x10 x2 x3 x4",
		"cpu=10": "p>a x1 x10 x2 x3 x4",
		"cpu=11": "",
	} {
		hasOf(t, s, "p - 0 "+need+" - - - - - real", want)
	}
	// also those that have nothing of what is wanted
	s = trial.Cluster("node a cpu=4,mem=4 - - up", "pod f - -1 mem=4 - - - - a hold", "pod g - -1 cpu=4 - - - - a hold")
	hasOf(t, s, "p - 0 cpu=1 - - - - - real", "p>a f g")
	hasOf(t, s, "p - 0 mem=1 - - - - - real", "p>a f")
	hasOf(t, s, "p - 0 cpu=1,mem=1 - - - - - real", "p>a f g")
}

// Real pods do not go, whatever their priority; nor do placeholders of other nodes, or those that are nowhere.
func TestP1501ForOwnHoldsAlone(t *testing.T) {
	s := trial.Cluster("node a cpu=4 - - up", "node b cpu=4 - - up", "pod e - 0 cpu=1 - - - - a real", "pod f - -1 cpu=3 - - - - a hold", "pod g - -1 cpu=9 - - - - - hold", "pod h - -1 cpu=1 - - - - b hold", "pod o - 0 cpu=3 - - - - b real")
	hasOf(t, s, "p - 1000000 cpu=1 - - - - - real", "p>a f")
	hasOf(t, s, "p - 1000000 cpu=3 - - - - - real", "p>a f")
	hasOf(t, s, "p - 1000000 cpu=4 - - - - - real", "")
	hasOf(t, state.Move(s, "f", ""), "p - 0 cpu=3 - - - - - real", "p>a")
	hasOf(t, state.Drop(s, "f"), "p - 0 cpu=3 - - - - - real", "p>a")
	hasOf(t, state.Drop(state.Drop(s, "f"), "e"), "p - 0 cpu=4 - - - - - real", "p>a")
	hasOf(t, state.Drop(state.Drop(s, "f"), "o"), "p - 0 cpu=4 - - - - - real", "p>b h")
	// a pod is one of them by Hold alone, whatever its priority
	low := pod.Pod{Name: "f", Prio: -1, Need: res.Vec{{Name: "cpu", N: 3}}, Node: "a"}
	hasOf(t, state.Put(s, low), "p - 9 cpu=1 - - - - - real", "p>b h")
	low.Prio, low.Hold = 9, true
	hasOf(t, state.Put(s, low), "p - 0 cpu=1 - - - - - real", "p>a f")
}

func TestP1501ForOfAHold(t *testing.T) {
	s := held()
	for _, name := range []string{"f", "g", "h", "k", "z"} {
		has(t, s, trial.Known(s, name), "")
	}
	for _, words := range []string{"p - -1 - - - - - - hold", "p - -1 cpu=1 - - - - - hold", "p - -1 cpu=5 - - - - a hold", "p - -1 cpu=12 - - - - - hold", "r - -1 - - - - - c hold"} {
		p := trial.Comer(words)
		has(t, s, p, "")
		has(t, trial.Cluster("node a cpu=99 - - up"), p, "")
		has(t, state.State{}, p, "")
		// by Hold alone
		p.Prio = 7
		has(t, s, p, "")
	}
	// of one that is none, but has the priority of one, there is
	has(t, s, pod.Pod{Name: "p", Prio: -1}, "p>a")
}

// What is not for want of room no placeholder mends by going.
func TestP1501ForNone(t *testing.T) {
	s := trial.Cluster("node a cpu=4 zone:x - up", "node b cpu=9 zone:y k:v! up", "node c cpu=9 zone:z - cordon",
		"pod f web -1 cpu=3 - - - - a hold", "pod g web -1 cpu=9 - - - - b hold", "pod h web -1 cpu=9 - - - - c hold", "pod o web 0 - - - - - a real")
	for words, want := range map[string]string{
		"p db 5 cpu=4 - - - - - real":            "p>a f",
		"p db 5 cpu=5 - - - - - real":            "",
		"p db 5 cpu=5 - - k - - real":            "p>b g",
		"p db 5 cpu=5 - zone:z k - - real":       "",
		"p db 5 cpu=1 - zone:x * - - real":       "p>a",
		"p db 5 cpu=2 - zone!x - - - real":       "",
		"p db 5 cpu=2 - zone!x k:v - - real":     "p>b g",
		"p db 5 cpu=2 - -zone * - - real":        "",
		"p db 5 cpu=2 - - - rack/9 - real":       "",
		"p db 5 cpu=2 - - - zone/1 - real":       "p>a f",
		"p web 5 cpu=2 - - - zone/1 - real":      "",
		"p web 5 cpu=2 - - - zone/2 - real":      "p>a f",
		"p web 5 cpu=2 - - * zone/1 - real":      "p>b g",
		"p web 5 - - - - zone/1 - real":          "",
		"p web 5 cpu=10 - - * - - real":          "",
		"p web 5 cpu=4,mem=1 - - * - - real":     "",
		"p web 5 cpu=9 - zone:y * zone/1 - real": "p>b g",
	} {
		hasOf(t, s, words, want)
	}
	p := trial.Comer("p - 0 - - - - - - real")
	has(t, state.State{}, p, "")
	s.Nodes = nil
	has(t, s, p, "")
	has(t, trial.Cluster("pod p - 0 - - - - - - real"), p, "")
}

// Placeholders do not count where others are spread, so that none goes for that.
func TestP1501ForSpread(t *testing.T) {
	s := trial.Cluster("node a cpu=4 zone:x - up", "node b cpu=4 zone:y - up", "pod f web -1 cpu=1 - - - zone/1 a hold", "pod g web -1 cpu=1 - - - zone/1 a hold", "pod h web -1 cpu=3 - - - - b hold")
	hasOf(t, s, "p web 0 cpu=2 - - - zone/1 - real", "p>a")
	hasOf(t, s, "p web 0 cpu=3 - - - zone/1 - real", "p>a f")
	hasOf(t, s, "p web 0 cpu=4 - - - zone/1 - real", "p>b h")
	s = state.Put(s, trial.Comer("o web 0 - - - - - a real"))
	hasOf(t, s, "p web 0 cpu=2 - - - zone/1 - real", "p>b h")
	hasOf(t, s, "p web 0 cpu=2 - - - zone/2 - real", "p>a")
}

// It is asked as if it were nowhere: what the one of its name has in use does not count.
func TestP1501ForAsIfNowhere(t *testing.T) {
	s := trial.Cluster("node a cpu=4 - - up", "node b cpu=6 - - up", "pod f - -1 cpu=1 - - - - a hold", "pod g - -1 cpu=1 - - - - b hold", "pod h - -1 cpu=1 - - - - b hold", "pod p - 0 cpu=3 - - - - a real", "pod q - 0 cpu=4 - - - - b real")
	has(t, s, trial.Known(s, "p"), "p>a")
	has(t, s, trial.Known(s, "q"), "q>b")
	has(t, state.Move(s, "p", "none"), trial.Known(s, "p"), "p>a")
	hasOf(t, s, "p - 9 cpu=4 - - - - b real", "p>a f")
	hasOf(t, s, "q - 9 cpu=5 - - - - - real", "q>b g")
	hasOf(t, s, "q - 9 cpu=6 - - - - - real", "q>b g h")
	hasOf(t, s, "new - 9 cpu=2 - - - - a real", "new>b g h")
	hasOf(t, s, "new - 9 cpu=3 - - - - a real", "")
}

// A real pod that has the name of a placeholder: that one is a placeholder of its node like the others.
func TestP1501ForOfTheNameOfAHold(t *testing.T) {
	s := trial.Cluster("node a cpu=4 - - up", "node b cpu=4 - - up", "pod f - -1 cpu=2 - - - - a hold", "pod g - -1 cpu=2 - - - - a hold", "pod h - -1 cpu=4 - - - - b hold")
	hasOf(t, s, "f - 0 cpu=2 - - - - - real", "f>a")
	hasOf(t, s, "h - 0 cpu=4 - - - - - real", "h>b")
	hasOf(t, s, "g - 0 cpu=3 - - - - - real", "g>a f")
	hasOf(t, state.Drop(s, "h"), "h - 0 cpu=4 - - - - - real", "h>b")
	hasOf(t, state.Move(s, "h", "none"), "f - 0 cpu=4 - - - - - real", "f>b")
}

func TestP1501ForOfTheGreatest(t *testing.T) {
	most := strconv.Itoa(greatest)
	s := trial.Cluster("node a cpu="+most+" - - up", "node b mem=1 - - up", "pod f - -1 cpu=1 - - - - a hold", "pod g - -1 cpu="+strconv.Itoa(greatest-1)+" - - - - a hold")
	hasOf(t, s, "p - 0 cpu=1 - - - - - real", "p>a f")
	hasOf(t, s, "p - 0 cpu=2 - - - - - real", "p>a f g")
	hasOf(t, s, "p - 0 cpu="+most+" - - - - - real", "p>a f g")
}

// Where Move made it too much for a node, placeholders go till it is no more.
func TestP1501ForWhereItIsTooMuch(t *testing.T) {
	s := trial.Cluster("node a cpu=4 - - up", "pod f - -1 cpu=2 - - - - a hold", "pod g - -1 cpu=2 - - - - a hold", "pod h - -1 cpu=2 - - - - - hold", "pod r - 0 cpu=4 - - - - - real")
	s = state.Move(s, "h", "a")
	hasOf(t, s, "p - 0 - - - - - - real", "p>a f")
	hasOf(t, s, "p - 0 cpu=1 - - - - - real", "p>a f g")
	hasOf(t, s, "p - 0 cpu=4 - - - - - real", "p>a f g h")
	s = state.Move(s, "r", "a")
	hasOf(t, s, "p - 0 - - - - - - real", "p>a f g h")
	hasOf(t, s, "p - 0 cpu=1 - - - - - real", "")
	hasOf(t, state.Put(s, trial.Comer("o - 0 cpu=1 - - - - a real")), "p - 0 - - - - - - real", "")
	// what they need together cannot be told at all till the first one is gone
	s = trial.Cluster("node a x0=9 - - up", "pod r - 0 x0=1 - - - - a real")
	s = state.Put(s, pod.Pod{Name: "f", Need: trial.Amounts("y", api.MaxList), Node: "a", Hold: true})
	hasOf(t, s, "p - 0 x0=8 - - - - - real", "p>a f")
	hasOf(t, s, "p - 0 x0=9 - - - - - real", "")
}

// The first of them all by priority, then by name, with placeholders that go or without.
func TestP1501Next(t *testing.T) {
	s := trial.Cluster("node a cpu=8 - - up", "pod f - -1 cpu=3 - - - - a hold", "pod g - -1 cpu=3 - - - - a hold", "pod h - -1 - - - - - - hold",
		"pod p - 5 cpu=2 - - - - - real", "pod q - 5 cpu=6 - - - - - real", "pod r - 7 cpu=9 - - - - - real", "pod s - 6 cpu=4 - - - - - real", "pod t - 9 - - - - - a real")
	isNext(t, s, "s>a f")
	isNext(t, state.Drop(s, "s"), "p>a")
	isNext(t, state.Drop(state.Drop(s, "s"), "p"), "q>a f g")
	isNext(t, state.Put(s, trial.Comer("o - 6 cpu=8 - - - - - real")), "o>a f g")
	isNext(t, state.Put(s, trial.Comer("z - 6 cpu=8 - - - - - real")), "s>a f")
	isNext(t, state.Put(s, trial.Comer("z - 1000000 cpu=1 - - - - - real")), "z>a")
	isNext(t, state.Put(s, trial.Comer("r - 7 cpu=8 - - - - - real")), "r>a f g")
	isNext(t, state.Move(s, "t", ""), "t>a")
	// with all where it may stand there is none behind
	for _, name := range []string{"p", "q", "s"} {
		s = state.Drop(s, name)
	}
	isNext(t, s, "")
	isNext(t, state.Drop(s, "r"), "")
}

// Neither fewer placeholders nor none take another one ahead.
func TestP1501NextByPriorityAheadOfCount(t *testing.T) {
	s := trial.Cluster("node a cpu=4 - - up", "node b cpu=1 - - up", "pod f - -1 cpu=1 - - - - a hold", "pod g - -1 cpu=1 - - - - a hold", "pod h - -1 cpu=2 - - - - a hold",
		"pod p - 0 cpu=1 - - - - - real", "pod q - 1 cpu=4 - - - - - real", "pod r - 0 - - - - - - real")
	isNext(t, s, "q>a f g h")
	isNext(t, state.Drop(s, "q"), "p>b")
	isNext(t, state.Drop(state.Drop(s, "q"), "p"), "r>a")
}

func TestP1501NextOfNone(t *testing.T) {
	for _, s := range []state.State{
		{},
		// nothing is pending
		trial.Cluster("node a cpu=4 - - up"),
		trial.Cluster("node a cpu=4 - - up", "pod f - -1 cpu=1 - - - - a hold", "pod p - 9 cpu=1 - - - - a real"),
		// placeholders alone are nowhere
		trial.Cluster("node a cpu=4 - - up", "pod f - -1 cpu=4 - - - - a hold", "pod g - -1 cpu=1 - - - - - hold"),
		// there is no node
		trial.Cluster("pod f - -1 - - - - - - hold", "pod p - 9 - - - - - - real"),
		// none has one
		trial.Cluster("node a cpu=4 zone:x - up", "node b cpu=9 - k:v! up", "node c cpu=9 - - cordon", "pod f - -1 cpu=3 - - - - a hold", "pod g - -1 cpu=9 - - - - b hold", "pod h - -1 cpu=9 - - - - c hold",
			"pod o web 0 cpu=1 - - - - a real", "pod p - 9 cpu=4 - - - - - real", "pod q - 3 - - zone:y - - - real", "pod r - 3 - - - - rack/9 - real", "pod s - 0 gpu=1 - - * - - real"),
	} {
		isNext(t, s, "")
	}
}

// One after another is done, till there is none.
func TestP1501NextAndDo(t *testing.T) {
	s := trial.Cluster("node a cpu=8 - - up", "node b cpu=4 zone:x - up", "node c cpu=6 - k:v! up",
		"pod f - -1 cpu=4 - - - - a hold", "pod g - -1 cpu=4 - - - - a hold", "pod h - -1 cpu=4 - - - - b hold", "pod i - -1 cpu=5 - - - - c hold", "pod j - -1 cpu=1 - - - - - hold",
		"pod p - 2 cpu=4 - zone:x - - - real", "pod q - 9 cpu=5 - - - - - real", "pod r - 8 cpu=3 - - - - - real", "pod s - 0 cpu=1 - - k - - real", "pod t - 1 cpu=1 - - - - - real", "budget low - 9")
	for _, want := range []string{"q>a f g", "r>a", "p>b h", "s>c", ""} {
		isNext(t, s, want)
		if want == "" {
			break
		}
		was := s
		w, _ := preempt.Next(s)
		s = preempt.Do(s, w)
		if p := trial.Known(s, w.Pod); p.Node != w.To || len(s.Pods) != len(was.Pods)-len(w.Holds) || state.Check(s) != api.OK {
			t.Errorf("%q became %q", text.Text(was), text.Text(s))
		}
	}
	const want = "node a cpu=8 - - up\nnode b cpu=4 zone:x - up\nnode c cpu=6 - k:v! up\n" +
		"pod i - -1 cpu=5 - - - - c hold\npod j - -1 cpu=1 - - - - - hold\n" +
		"pod p - 2 cpu=4 - zone:x - - b real\npod q - 9 cpu=5 - - - - a real\npod r - 8 cpu=3 - - - - a real\npod s - 0 cpu=1 - - k - c real\npod t - 1 cpu=1 - - - - - real\nbudget low - 9\n"
	if got := text.Text(s); got != want {
		t.Errorf("%q; want %q", got, want)
	}
}

func TestP1501Do(t *testing.T) {
	const nodes = "node a cpu=4,mem=2 zone:x k:v up\nnode b - - - cordon\n"
	const f, g, h = "pod f - -1 cpu=1 - - - - a hold\n", "pod g - -1 cpu=1 app:web zone k zone/1 a hold\n", "pod h - -1 - - - - - - hold\n"
	const at, budgets = "pod p web 7 cpu=2 app:web zone,-gpu k:v zone/1 ", "budget low app:web 9\n"
	s := trial.Cluster(nodes + f + g + h + at + "- real\n" + budgets)
	for words, pods := range map[string]string{
		"p>a":       f + g + h + at + "a real\n",
		"p>a f":     g + h + at + "a real\n",
		"p>a g":     f + h + at + "a real\n",
		"p>a f g":   h + at + "a real\n",
		"p>a g f":   h + at + "a real\n",
		"p>a f g h": at + "a real\n",
		// it is not asked whether it fits, nor where they are
		"p>b h": f + g + at + "b real\n",
		"p> f":  g + h + at + "- real\n",
		// what is not there is let be
		"p>a f f":  g + h + at + "a real\n",
		"p>a q":    f + g + h + at + "a real\n",
		"q>a f":    g + h + at + "- real\n",
		">":        f + g + h + at + "- real\n",
		"f>b g":    strings.Replace(f, " a hold", " b hold", 1) + h + at + "- real\n",
		"f>b f":    g + h + at + "- real\n",
		"h>a p":    f + g + "pod h - -1 - - - - - a hold\n",
		"p>none g": f + h + at + "none real\n",
	} {
		makes(t, s, words, nodes+pods+budgets)
	}
	if made := preempt.Do(s, preempt.Way{}); !state.Same(made, s) {
		t.Errorf("%q", text.Text(made))
	}
	makes(t, state.State{}, "p>a f", "")
}

// eachCluster: three placeholders and two real pods, each of them nowhere or on any of the nodes, with room or without.
func eachCluster(yield func(state.State) bool) {
	s := trial.Cluster("node a cpu=3,mem=1 zone:x - up", "node b cpu=4 disk:fast,zone:y k:v! up", "node c cpu=2 zone:x k:v up", "node d cpu=9 zone:z - cordon",
		"pod f web -1 cpu=2 - - - - - hold", "pod h - -1 cpu=1 - zone - - - hold", "pod i web -1 cpu=1,mem=1 - - - zone/1 - hold", "pod p web 0 cpu=2 - - * zone/1 - real", "pod q web 3 cpu=3 - -old k zone/2 - real")
	for moved := range trial.Placings(s) {
		if !yield(moved) {
			return
		}
	}
}

// emptied: the Holds of that node that go, one by one, till p fits; a false tells that it never does.
func emptied(s state.State, p pod.Pod, to string) (gone []string, there bool) {
	for _, h := range state.On(s, to) {
		if fit.Fit(s, p, to) == api.OK {
			break
		}
		if h.Hold {
			gone = append(gone, h.Name)
			s = state.Drop(s, h.Name)
		}
	}
	return gone, fit.Fit(s, p, to) == api.OK
}

// picked is For, by the chapter's words.
func picked(s state.State, p pod.Pod) string {
	word, fewest := "", len(s.Pods)+1
	for _, n := range s.Nodes {
		gone, there := emptied(s, p, n.Name)
		if there && !p.Hold && len(gone) < fewest {
			word, fewest = said(preempt.Way{Pod: p.Name, To: n.Name, Holds: gone}), len(gone)
		}
	}
	return word
}

// nextPicked is Next, by the chapter's words.
func nextPicked(s state.State) string {
	for _, p := range sched.Pending(s) {
		if word := picked(s, p); word != "" {
			return word
		}
	}
	return ""
}

func TestP1501InEachCluster(t *testing.T) {
	for s := range eachCluster {
		for _, p := range s.Pods {
			has(t, s, p, picked(s, p))
		}
		isNext(t, s, nextPicked(s))
	}
}

// What For tells of a sound cluster leaves a sound one when it is done, and no budget breached that was not.
func TestP1501DoLeavesItSound(t *testing.T) {
	low := []budget.Budget{{Name: "all", Floor: 1}}
	for s := range eachCluster {
		s.Budgets = low
		if w, there := preempt.Next(s); there && state.Check(s) == api.OK {
			made := preempt.Do(s, w)
			if state.Check(made) != api.OK || trial.Known(made, w.Pod).Node != w.To || fit.Fit(made, trial.Known(made, w.Pod), w.To) != api.OK {
				t.Errorf("%q, %q: %q", text.Text(s), said(w), text.Text(made))
			}
			if len(budget.Breached(made.Budgets, made.Pods)) > len(budget.Breached(s.Budgets, s.Pods)) {
				t.Errorf("%q, %q: breached", text.Text(s), said(w))
			}
		}
	}
}

// cleared: without all Holds of that node.
func cleared(s state.State, name string) state.State {
	for _, p := range state.On(s, name) {
		if p.Hold {
			s = state.Drop(s, p.Name)
		}
	}
	return s
}

func fitsSomewhereCleared(s state.State, p pod.Pod) bool {
	return slices.ContainsFunc(s.Nodes, func(n node.Node) bool { return fit.Fit(cleared(s, n.Name), p, n.Name) == api.OK })
}

// There is a Way just where it fits when all Holds are gone from some node; behind it the pod fits there.
func TestP1502InEachCluster(t *testing.T) {
	for s := range eachCluster {
		for _, p := range s.Pods {
			w, there := preempt.For(s, p)
			if there != (!p.Hold && fitsSomewhereCleared(s, p)) {
				t.Errorf("For(%q, %q): %t", text.Text(s), pod.Text(p), there)
			}
			if there && fit.Fit(preempt.Do(s, w), p, w.To) != api.OK {
				t.Errorf("For(%q, %q): %q", text.Text(s), pod.Text(p), said(w))
			}
		}
	}
}

// There is one on the last node with the last of its placeholders gone, and none where they all are too few.
func TestP1502TheLastHoldOfTheLastNode(t *testing.T) {
	s := trial.Cluster("node a cpu=7 - - up", "node b cpu=7 - - up", "node c cpu=8 - - up")
	for i := range 21 {
		s = state.Put(s, pod.Pod{Name: "h" + strconv.Itoa(10+i), Prio: -1, Need: res.Vec{{Name: "cpu", N: 1}}, Node: s.Nodes[i%3].Name, Hold: true})
	}
	hasOf(t, s, "p - 0 cpu=7 - - - - - real", "p>c h12 h15 h18 h21 h24 h27")
	hasOf(t, s, "p - 0 cpu=8 - - - - - real", "p>c h12 h15 h18 h21 h24 h27 h30")
	hasOf(t, s, "p - 0 cpu=9 - - - - - real", "")
	hasOf(t, state.Move(s, "h12", ""), "p - 0 cpu=8 - - - - - real", "p>c h15 h18 h21 h24 h27 h30")
}

// full: all nodes and all pods, each list as long as it may be: so many placeholders on each node, and the rest are real ones that are nowhere.
func full(holds int) state.State {
	var s state.State
	for i := range api.MaxNodes {
		has := trial.Amounts("x", api.MaxList)
		for j := range has {
			has[j].N = int64(holds)
		}
		s.Nodes = append(s.Nodes, node.Node{Name: "n" + strconv.Itoa(100+i), Cap: has})
	}
	for i := range holds * api.MaxNodes {
		s.Pods = append(s.Pods, pod.Pod{Name: "h" + strconv.Itoa(1000+i), Prio: -1, Need: trial.Amounts("x", api.MaxList), Node: s.Nodes[i%api.MaxNodes].Name, Hold: true})
	}
	for i := range api.MaxPods - len(s.Pods) {
		s.Pods = append(s.Pods, pod.Pod{Name: "p" + strconv.Itoa(1000+i), Prio: i, Need: trial.Amounts("x", api.MaxList)})
	}
	return s
}

func TestP1501AtTheLimits(t *testing.T) {
	s := full(3)
	if e := state.Check(s); e != api.OK {
		t.Fatal(e)
	}
	for i := range api.MaxNodes {
		w, there := preempt.Next(s)
		// three fit a node, one for each placeholder
		want := "p" + strconv.Itoa(1000+api.MaxNodes-1-i) + ">n" + strconv.Itoa(100+i/3) + " h" + strconv.Itoa(1000+i/3+i%3*api.MaxNodes)
		isTold(t, strconv.Itoa(i), w, there, want)
		s = preempt.Do(s, w)
	}
	if len(s.Pods) != api.MaxPods-api.MaxNodes || state.Check(s) != api.OK {
		t.Errorf("%q", text.Text(s))
	}
	isNext(t, s, "")
}

// At the limits: none of those that wait has a Way, or the last one alone.
func TestP1501AtTheLimitsForNothing(t *testing.T) {
	s := full(2)
	for i, p := range s.Pods {
		if !p.Hold {
			s.Pods[i].Need[3].N = 3
		}
	}
	if e := state.Check(s); e != api.OK {
		t.Fatal(e)
	}
	isNext(t, s, "")
	s.Pods[2*api.MaxNodes].Need[3].N = 2
	isNext(t, s, "p1000>n100 h1000 h1032")
}

func TestP1501AllPodsAreHoldsOfOneNode(t *testing.T) {
	s := trial.Cluster("node a cpu=128 - - up")
	var names []string
	for i := range api.MaxPods {
		name := "h" + strconv.Itoa(1000+i)
		names = append(names, name)
		s.Pods = append(s.Pods, pod.Pod{Name: name, Prio: -1, Need: res.Vec{{Name: "cpu", N: 1}}, Node: "a", Hold: true})
	}
	for _, count := range []int{1, 2, 64, 127, 128} {
		hasOf(t, s, "p - 0 cpu="+strconv.Itoa(count)+" - - - - - real", "p>a "+strings.Join(names[:count], " "))
	}
	hasOf(t, s, "p - 0 cpu=129 - - - - - real", "")
}

// roomy: a cluster and a pod, all lists of which have spare room; what is there would tell, were it read.
func roomy() (state.State, pod.Pod) {
	s := trial.Cluster("node a cpu=4,mem=4 zone:x - up", "node b cpu=8,mem=1 zone:y k:v,x:y! up", "node c cpu=3 zone:x g:h up", "node d cpu=9 zone:y - cordon",
		"pod f web -1 cpu=2 app:web zone k zone/1 a hold", "pod g - -1 cpu=1 - - - - a hold", "pod h - -1 cpu=4 - - - - b hold", "pod i - -1 cpu=3 - - - - b hold", "pod o web 0 cpu=1 - - - - a real", "pod p web 5 cpu=8 app:web zone,-gpu x,k:w zone/1 - real", "pod q db 7 cpu=9 app:db zone:x k - - real", "budget low app:web 1")
	return trial.Roomy(s, "web", "b"), trial.RoomyPod(trial.Known(s, "p"))
}

// roomyWay has spare room in its Holds, too, with a name that would tell.
func roomyWay() preempt.Way {
	return preempt.Way{Pod: "p", To: "b", Holds: trial.WithRoom([]string{"h", "i"}, "f")}
}

const roomyLeft = "node a cpu=4,mem=4 zone:x - up\nnode b cpu=8,mem=1 zone:y k:v,x:y! up\nnode c cpu=3 zone:x g:h up\nnode d cpu=9 zone:y - cordon\n" +
	"pod f web -1 cpu=2 app:web zone k zone/1 a hold\npod g - -1 cpu=1 - - - - a hold\npod o web 0 cpu=1 - - - - a real\npod p web 5 cpu=8 app:web zone,-gpu x,k:w zone/1 b real\npod q db 7 cpu=9 app:db zone:x k - - real\nbudget low app:web 1\n"

func tellsRoomy(t *testing.T, s state.State, p pod.Pod, w preempt.Way) {
	t.Helper()
	has(t, s, p, said(w))
	isNext(t, s, said(w))
	if made := text.Text(preempt.Do(s, w)); made != roomyLeft {
		t.Errorf("%q", made)
	}
}

func TestP2NothingHandedInIsChanged(t *testing.T) {
	s, p := roomy()
	w := roomyWay()
	before, podBefore := roomy()
	for name, call := range map[string]func(){
		"For":           func() { preempt.For(s, p) },
		"For of none":   func() { preempt.For(s, trial.Known(s, "q")) },
		"For of a Hold": func() { preempt.For(s, s.Pods[0]) },
		"Next":          func() { preempt.Next(s) },
		"Do":            func() { preempt.Do(s, w) },
		"Do of nothing": func() { preempt.Do(s, preempt.Way{}) },
	} {
		call()
		if !state.Same(trial.WithSpare(s), trial.WithSpare(before)) || !pod.Same(trial.PodWithSpare(p), trial.PodWithSpare(podBefore)) {
			t.Errorf("%s: %q became %q, %q became %q", name, text.Text(before), text.Text(s), pod.Text(podBefore), pod.Text(p))
		}
		if !slices.Equal(w.Holds[:4], []string{"h", "i", "f", "f"}) {
			t.Errorf("%s: %q", name, w.Holds[:4])
		}
	}
	tellsRoomy(t, s, p, w)
}

// No answer is reached by a change of another one, nor by one of what was handed in; nor is that by one of an answer.
func TestP2AnswersNewMemory(t *testing.T) {
	s, p := roomy()
	before, _ := roomy()
	way, _ := preempt.For(s, p)
	next, _ := preempt.Next(s)
	handed := roomyWay()
	made, same := preempt.Do(s, handed), preempt.Do(s, preempt.Way{})
	told := said(way) + said(next) + text.Text(made) + text.Text(same)
	otherWay, _ := preempt.For(s, p)
	otherNext, _ := preempt.Next(s)
	trial.Overwrite(otherWay.Holds, "mine")
	trial.Overwrite(otherNext.Holds, "mine")
	trial.Spoil(preempt.Do(s, handed))
	trial.Spoil(preempt.Do(s, preempt.Way{}))
	if !state.Same(trial.WithSpare(s), trial.WithSpare(before)) || said(handed) != said(roomyWay()) {
		t.Errorf("%q became %q", text.Text(before), text.Text(s))
	}
	trial.Spoil(s)
	trial.SpoilPods([]pod.Pod{p})
	trial.Overwrite(handed.Holds, "mine")
	if got := said(way) + said(next) + text.Text(made) + text.Text(same); got != told {
		t.Errorf("%q became %q", told, got)
	}
}

// What is handed in may share lists; what is answered does not.
func TestP2AnswersShareNothing(t *testing.T) {
	s := trial.Cluster("node a cpu=9 zone:x - up", "pod f - -1 - - - - - a hold", "pod p - 3 cpu=1 app:web zone k - - real", "pod q - 9 cpu=1 app:web zone k - - real")
	p := &s.Pods[1]
	p.Need, p.Labels, p.Sel, p.Tols = s.Pods[2].Need, s.Pods[2].Labels, s.Pods[2].Sel, s.Pods[2].Tols
	for _, words := range []string{"p>a f", "p>a", ">"} {
		l := preempt.Do(s, wayOf(words)).Pods
		last := len(l) - 1
		was := pod.Text(l[last])
		trial.SpoilPods(l[:last:last])
		if pod.Text(l[last]) != was {
			t.Errorf("%q became %q", was, pod.Text(l[last]))
		}
	}
}

func TestP3SameCallsAnswerTheSame(t *testing.T) {
	s, p := roomy()
	for range 3 {
		tellsRoomy(t, s, p, roomyWay())
		// what was asked of another cluster is not kept
		has(t, state.State{}, p, "")
		isNext(t, state.State{}, "")
		has(t, state.Drop(s, "h"), p, "p>b i")
		isNext(t, state.Put(s, trial.Comer("q db 7 cpu=3 - zone:x k - - real")), "q>c")
	}
}

// Whatever plain data is given, no call goes out by a panic, and all end, also where state.Check refuses it.
func TestP1EveryCallEnds(t *testing.T) {
	for i, s := range trial.WildClusters() {
		for j, p := range trial.WildPods() {
			if w, there := preempt.For(s, p); there && (p.Hold || w.Pod != p.Name) {
				t.Errorf("cluster %d, pod %d: %q", i, j, said(w))
			}
		}
		w, _ := preempt.Next(s)
		for _, w := range []preempt.Way{w, {}, {Pod: "a", To: "a", Holds: []string{"a", "", "a", "\xff"}}, {Holds: make([]string, 100)}} {
			if made := preempt.Do(s, w); len(made.Nodes) != len(s.Nodes) || len(made.Pods) > len(s.Pods) {
				t.Errorf("cluster %d: %q", i, text.Text(made))
			}
		}
	}
}

// Where names are there twice, or are none, another one may go for a placeholder: that ends, too.
func TestP1EndsWhereNamesAreTwice(t *testing.T) {
	cpu := res.Vec{{Name: "cpu", N: 4}}
	for _, s := range []state.State{
		{Nodes: []node.Node{{Name: "a", Cap: cpu}}, Pods: []pod.Pod{{Name: "f"}, {Name: "f", Node: "a", Need: cpu, Hold: true}, {Name: "f", Node: "a", Hold: true}, {Name: "p", Need: cpu}}},
		{Nodes: []node.Node{{Name: "a"}, {Name: "a", Cap: cpu}}, Pods: []pod.Pod{{Name: "f", Node: "a", Need: cpu, Hold: true}, {Name: "p", Need: cpu}}},
		{Nodes: []node.Node{{Cap: cpu}}, Pods: []pod.Pod{{Name: "f", Need: cpu, Hold: true}, {Name: "p", Need: cpu}, {}}},
		{Nodes: []node.Node{{Name: "a", Cap: cpu}}, Pods: []pod.Pod{{Node: "a", Need: cpu, Hold: true}, {Need: cpu}, {Name: "p", Need: cpu}, {Node: "a", Hold: true}}},
	} {
		for _, p := range s.Pods {
			w, _ := preempt.For(s, p)
			preempt.Do(s, w)
		}
		w, _ := preempt.Next(s)
		preempt.Do(s, w)
	}
}
