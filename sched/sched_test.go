package sched_test

import (
	"iter"
	"slices"
	"strconv"
	"strings"
	"testing"

	"ballast/api"
	"ballast/fit"
	"ballast/label"
	"ballast/node"
	"ballast/pod"
	"ballast/res"
	"ballast/sched"
	"ballast/score"
	"ballast/state"
	"ballast/text"
	"ballast/trial"
)

// arePending: those of these names, in that order, as they are in s.
func arePending(t *testing.T, s state.State, want string) {
	t.Helper()
	var names []string
	for _, p := range sched.Pending(s) {
		names = append(names, p.Name)
		if !pod.Same(p, trial.Known(s, p.Name)) {
			t.Errorf("Pending(%q): %q", text.Text(s), pod.Text(p))
		}
	}
	if !slices.Equal(names, strings.Fields(want)) {
		t.Errorf("Pending(%q): %q; want %q", text.Text(s), names, want)
	}
}

// said is a Bound as a word.
func said(b sched.Bound) string { return b.Pod + ">" + b.To }

func saidAll(l []sched.Bound) string {
	var words []string
	for _, b := range l {
		words = append(words, said(b))
	}
	return strings.Join(words, " ")
}

// isNext: that Bound as a word; empty: none.
func isNext(t *testing.T, s state.State, pack bool, want string) {
	t.Helper()
	b, there := sched.Next(s, pack)
	if there != (want != "") || there && said(b) != want || !there && b != (sched.Bound{}) {
		t.Errorf("Next(%q, %t): %v, %t; want %q", text.Text(s), pack, b, there, want)
	}
}

func areNext(t *testing.T, s state.State, spread, pack string) {
	t.Helper()
	isNext(t, s, false, spread)
	isNext(t, s, true, pack)
}

// binds: these Bounds in that order, each of them the Next of what those ahead of it made by state.Move, and none behind them.
func binds(t *testing.T, s state.State, pack bool, want string) {
	t.Helper()
	made, l := sched.All(s, pack)
	if saidAll(l) != want {
		t.Errorf("All(%q, %t): %q; want %q", text.Text(s), pack, saidAll(l), want)
	}
	moved := s
	for _, b := range l {
		isNext(t, moved, pack, said(b))
		moved = state.Move(moved, b.Pod, b.To)
	}
	if !state.Same(made, moved) {
		t.Errorf("All(%q, %t): %q; want %q", text.Text(s), pack, text.Text(made), text.Text(moved))
	}
	isNext(t, made, pack, "")
}

func allBind(t *testing.T, s state.State, spread, pack string) {
	t.Helper()
	binds(t, s, false, spread)
	binds(t, s, true, pack)
}

// mixed: real pods and placeholders, on nodes and nowhere.
func mixed() state.State {
	return trial.Cluster("node a cpu=8 - - up", "node b cpu=4 - - up",
		"pod f - -1 cpu=1 - - - - a hold", "pod g - -1 cpu=1 - - - - - hold", "pod h - -1 - - - - - - hold",
		"pod p web 5 cpu=2 app:web -gpu k:v zone/2 - real", "pod q web 9 cpu=1 - - - - a real", "pod r - 0 cpu=1 - - - - - real", "pod s - 7 cpu=2 - - - - - real", "pod t - 5 - - - - - b real", "pod u - 5 cpu=1 - - - - - real")
}

func TestP1401Pending(t *testing.T) {
	s := mixed()
	arePending(t, s, "s p u r")
	arePending(t, state.Move(s, "s", "b"), "p u r")
	arePending(t, state.Move(s, "t", ""), "s p t u r")
	arePending(t, state.Move(s, "q", ""), "q s p u r")
	arePending(t, state.Drop(s, "p"), "s u r")
	// on a node that is none it is somewhere all the same
	arePending(t, state.Move(s, "p", "none"), "s u r")
	// whether it fits anywhere is not asked
	arePending(t, state.Put(s, trial.Comer("big - 6 cpu=99 - zone:x - rack/1 - real")), "s big p u r")
	s.Nodes = nil
	arePending(t, s, "s p u r")
}

// A placeholder that is nowhere is not pending, one that goes from its node neither.
func TestP1401PendingHasNoHolds(t *testing.T) {
	s := mixed()
	arePending(t, state.Move(s, "f", ""), "s p u r")
	for _, name := range []string{"p", "r", "s", "u"} {
		s = state.Drop(s, name)
	}
	arePending(t, s, "")
	arePending(t, state.Move(s, "f", ""), "")
	arePending(t, trial.Cluster("pod h - -1 - - - - - - hold"), "")
	// by Hold alone, whatever its priority
	low := pod.Pod{Name: "low", Prio: -1}
	arePending(t, state.Put(s, low), "low")
	arePending(t, state.Put(s, pod.Pod{Name: "high", Prio: 9, Hold: true}), "")
}

func TestP1401PendingOfNone(t *testing.T) {
	for _, s := range []state.State{
		{},
		{Pods: []pod.Pod{}},
		trial.Cluster("node a cpu=4 - - up"),
		trial.Cluster("node a cpu=4 - - up", "pod p - 9 - - - - - a real", "pod q - 0 - - - - - a real", "pod h - -1 - - - - - - hold", "budget low - 1"),
	} {
		arePending(t, s, "")
	}
}

func TestP1401PendingByCompare(t *testing.T) {
	for lines, want := range map[string]string{
		"pod a - 0 - - - - - - real":                                                                                       "a",
		"pod a - 0 - - - - - - real\npod b - 1 - - - - - - real":                                                           "b a",
		"pod a - 1 - - - - - - real\npod b - 0 - - - - - - real":                                                           "a b",
		"pod a - 4 - - - - - - real\npod b - 4 - - - - - - real":                                                           "a b",
		"pod a - 0 - - - - - - real\npod b - 1000000 - - - - - - real\npod c - 999999 - - - - - - real":                    "b c a",
		"pod a - 9 - - - - - - real\npod b - 10 - - - - - - real\npod c - 100 - - - - - - real":                            "c b a",
		"pod 10 - 3 - - - - - - real\npod 9 - 3 - - - - - - real\npod a - 3 - - - - - - real":                              "10 9 a",
		"pod a - 1 - - - - - - real\npod aa - 2 - - - - - - real\npod ab - 1 - - - - - - real\npod b - 2 - - - - - - real": "aa b a ab",
	} {
		arePending(t, trial.Cluster(lines), want)
	}
	// wherever they stand in their row
	s := trial.Cluster("pod a - 2 - - - - - - real", "pod b - 7 - - - - - - real", "pod c - 2 - - - - - - real", "pod d - 2 - - - - - - real", "pod e - 7 - - - - - - real")
	for range s.Pods {
		s.Pods = append(s.Pods[1:], s.Pods[0])
		arePending(t, s, "b e a c d")
	}
	slices.Reverse(s.Pods)
	arePending(t, s, "b e a c d")
}

// The first of all has no node, the second one has one.
func TestP1401NextSkipsWhatFitsNowhere(t *testing.T) {
	for _, first := range []string{
		"o - 9 cpu=5 - - - - - real",
		"o - 9 gpu=1 - - - - - real",
		"o - 9 - - zone:z - - - real",
		"o - 9 - - disk - - - real",
		"o - 9 - - - - rack/1 - real",
		"o web 9 cpu=1 - zone:x - zone/1 - real",
		"o - 9 - - old - - - real",
		"o - 9 - - shut - - - real",
	} {
		s := trial.Cluster("node a cpu=4 zone:x - up", "node b cpu=4 zone:y - up", "node c cpu=9 old:x k:v! up", "node d cpu=9 shut:x - cordon",
			"pod m web 0 cpu=1 - - - - a real", "pod n web 0 cpu=2 - - - - a real", "pod "+first, "pod p - 5 cpu=1 - - - - - real", "pod q - 7 cpu=2 - zone:y - - - real", "pod r - 8 cpu=9 - - - - - real")
		areNext(t, s, "q>b", "q>b")
		areNext(t, state.Drop(s, "q"), "p>b", "p>a")
		areNext(t, state.Drop(state.Drop(s, "p"), "q"), "", "")
		areNext(t, state.Drop(s, "o"), "q>b", "q>b")
	}
}

func TestP1401NextWhereAllFit(t *testing.T) {
	s := trial.Cluster("node a cpu=8 - - up", "node b cpu=4 - - up", "pod p - 3 cpu=1 - - - - - real", "pod q - 8 cpu=3 - - - - - real", "pod r - 8 - - - - - - real", "pod s - 0 cpu=2 - - - - a real")
	areNext(t, s, "q>a", "q>b")
	areNext(t, state.Drop(s, "q"), "r>b", "r>a")
	areNext(t, state.Move(s, "q", "b"), "r>a", "r>b")
	areNext(t, state.Drop(state.Drop(s, "q"), "r"), "p>b", "p>a")
	areNext(t, state.Put(s, trial.Comer("aa - 8 cpu=1 - - - - - real")), "aa>b", "aa>a")
	areNext(t, state.Put(s, trial.Comer("z - 9 cpu=1 - - - - - real")), "z>b", "z>a")
}

func TestP1401NextOfNone(t *testing.T) {
	for _, s := range []state.State{
		{},
		// nothing is pending
		trial.Cluster("node a cpu=4 - - up"),
		trial.Cluster("node a cpu=4 - - up", "pod p - 9 cpu=1 - - - - a real", "pod q - 0 - - - - - a real"),
		// placeholders alone are nowhere
		trial.Cluster("node a cpu=4 - - up", "pod h - -1 cpu=1 - - - - - hold", "pod p - 9 cpu=1 - - - - a real"),
		// there is no node
		trial.Cluster("pod p - 9 cpu=1 - - - - - real", "pod q - 0 - - - - - - real"),
		// none has one
		trial.Cluster("node a cpu=4 zone:x - up", "node b cpu=9 - k:v! up", "node c cpu=9 - - cordon",
			"pod o web 0 cpu=1 - - - - a real", "pod p - 9 cpu=4 - - - - - real", "pod q - 3 - - zone:y - - - real", "pod r - 3 - - - - rack/9 - real", "pod s - 0 gpu=1 - - * - - real"),
		// a placeholder has the room
		trial.Cluster("node a cpu=4 - - up", "pod h - -1 cpu=4 - - - - a hold", "pod p - 9 cpu=1 - - - - - real"),
	} {
		areNext(t, s, "", "")
		allBind(t, s, "", "")
	}
}

func TestP1401NextGoesWhereScoreHasIt(t *testing.T) {
	// with 1 of cpu more: a 1/2, b 3/4, c 1/4 and beside it what is not borne
	s := trial.Cluster("node a cpu=8 - - up", "node b cpu=4 - - up", "node c cpu=4 - k:v up", "pod o - 0 cpu=3 - - - - a real", "pod p - 5 cpu=1 - - - - - real", "pod q - 0 cpu=2 - - - - b real")
	areNext(t, s, "p>a", "p>b")
	areNext(t, state.Put(s, trial.Comer("p - 5 cpu=1 - - k - - real")), "p>c", "p>b")
	areNext(t, state.Put(s, trial.Comer("p - 5 cpu=3 - - - - - real")), "p>a", "p>a")
	areNext(t, state.Put(s, trial.Comer("p - 5 cpu=3 - - k - - real")), "p>a", "p>a")
	areNext(t, state.Put(s, trial.Comer("p - 5 cpu=4 - - - - - real")), "p>a", "p>a")
	// as good: by name
	alike := trial.Cluster("node b cpu=4 - - up", "node aa cpu=4 - - up", "node c cpu=4 - - up", "pod p - 5 cpu=1 - - - - - real")
	areNext(t, alike, "p>aa", "p>aa")
}

// One that is bound takes the room of the next one, and is what the next one's score tells of.
func TestP1401AllTakesRoom(t *testing.T) {
	s := trial.Cluster("node a cpu=4 - - up", "node b cpu=3 - - up", "pod p - 1 cpu=3 - - - - - real", "pod q - 9 cpu=3 - - - - - real", "pod r - 5 cpu=3 - - - - - real")
	allBind(t, s, "q>a r>b", "q>b r>a")
	// a lesser one finds what a greater one does not
	s = state.Put(s, trial.Comer("s - 0 cpu=1 - - - - - real"))
	allBind(t, s, "q>a r>b s>a", "q>b r>a s>a")
	// with as much again all have
	s.Nodes[0].Cap[0].N = 8
	allBind(t, s, "q>a r>a p>b s>a", "q>b r>a p>a s>a")
}

func TestP1401AllGoesByPriorityAheadOfSize(t *testing.T) {
	s := trial.Cluster("node a cpu=4 - - up", "pod p - 0 cpu=1 - - - - - real", "pod q - 3 cpu=4 - - - - - real", "pod r - 0 cpu=1 - - - - - real")
	allBind(t, s, "q>a", "q>a")
	allBind(t, state.Put(s, trial.Comer("q - 0 cpu=4 - - - - - real")), "p>a r>a", "p>a r>a")
	allBind(t, state.Put(s, trial.Comer("q - 0 cpu=2 - - - - - real")), "p>a q>a r>a", "p>a q>a r>a")
}

func TestP1401AllSpreadsOrPacks(t *testing.T) {
	s := trial.Cluster("node a cpu=4 - - up", "node b cpu=4 - - up", "node c cpu=4 - - up",
		"pod p - 0 cpu=2 - - - - - real", "pod q - 0 cpu=1 - - - - - real", "pod r - 0 cpu=1 - - - - - real", "pod s - 0 cpu=1 - - - - - real", "pod t - 0 cpu=2 - - - - - real")
	allBind(t, s, "p>a q>b r>c s>b t>c", "p>a q>a r>a s>b t>b")
}

// Where the first one goes tells whether the next one is left with a node that it is wanted on, and that it bears.
func TestP1401AllLeavesWhatIsWantedElsewhere(t *testing.T) {
	s := trial.Cluster("node a cpu=4 disk:fast - up", "node b cpu=3 - - up", "pod p - 9 cpu=2 - - - - - real", "pod q - 5 cpu=3 - disk:fast - - - real", "pod r - 1 cpu=1 - - - - - real")
	allBind(t, s, "p>a r>b", "p>b q>a r>a")
	// it is asked ahead of it
	allBind(t, state.Put(s, trial.Comer("q - 10 cpu=3 - disk:fast - - - real")), "q>a p>b r>a", "q>a p>b r>a")
	taints := trial.Cluster("node a cpu=4 - - up", "node b cpu=3 - k:v! up", "pod p - 9 cpu=2 - - k - - real", "pod q - 5 cpu=3 - - - - - real")
	allBind(t, taints, "p>a", "p>b q>a")
}

// p would stand too close till q is bound in the other domain; then it is asked ahead of all that are behind it.
func TestP1401AllComesBackToWhatStoodAhead(t *testing.T) {
	s := trial.Cluster("node a cpu=9 zone:x - up", "node b cpu=1 zone:y - up", "pod n web 0 cpu=1 - - - - a real",
		"pod p web 9 cpu=4 - - - zone/1 - real", "pod q web 5 cpu=1 - zone:y - - - real", "pod r - 3 cpu=5 - - - - - real", "pod s - 2 cpu=4 - - - - - real")
	areNext(t, s, "q>b", "q>b")
	allBind(t, s, "q>b p>a s>a", "q>b p>a s>a")
	// without it they stay where they are
	allBind(t, state.Drop(s, "q"), "r>a", "r>a")
	// behind r it comes too late: what r takes is gone
	allBind(t, state.Put(s, trial.Comer("q web 2 cpu=1 - zone:y - - - real")), "r>a q>b", "r>a q>b")
	// of another owner, or a placeholder, it does not help
	allBind(t, state.Put(s, trial.Comer("q db 5 cpu=1 - zone:y - - - real")), "q>b r>a", "q>b r>a")
	// of a third domain it waits for one there, too
	s.Nodes = append(s.Nodes, node.Node{Name: "c", Cap: res.Vec{{Name: "cpu", N: 1}}, Labels: label.Set{{Key: "zone", Val: "z"}}})
	allBind(t, s, "q>b r>a", "q>b r>a")
	allBind(t, state.Put(s, trial.Comer("o web 4 cpu=1 - zone:z - - - real")), "q>b o>c p>a s>a", "q>b o>c p>a s>a")
}

// Each that is bound lets one that stood ahead of it be bound, too.
func TestP1401AllComesBackAgainAndAgain(t *testing.T) {
	s := trial.Cluster("node a cpu=9 zone:x - up", "node b cpu=9 zone:y - up",
		"pod m web 0 - - - - - a real", "pod n web 0 - - - - - a real",
		"pod p web 9 - - zone:x - zone/2 - real", "pod q web 8 - - zone:x - zone/2 - real", "pod r web 7 - - zone:y - zone/1 - real", "pod s web 6 - - zone:y - zone/1 - real", "pod t web 5 - - zone:y - zone/1 - real")
	allBind(t, s, "r>b p>a s>b q>a t>b", "r>b p>a s>b q>a t>b")
}

// Ahead of p q fits, behind it q would stand too close.
func TestP1401AllLeavesWhatWouldStandTooClose(t *testing.T) {
	s := trial.Cluster("node a cpu=9 zone:x - up", "node b cpu=1 zone:y - up", "pod p web 9 cpu=2 - - - - - real", "pod q web 5 cpu=2 - - - zone/1 - real", "pod r db 3 cpu=2 - - - zone/1 - real")
	areNext(t, state.Drop(s, "p"), "q>a", "q>a")
	allBind(t, s, "p>a r>a", "p>a r>a")
	allBind(t, state.Put(s, trial.Comer("q web 5 cpu=2 - - - zone/2 - real")), "p>a q>a r>a", "p>a q>a r>a")
	allBind(t, state.Put(s, trial.Comer("q web 10 cpu=2 - - - zone/1 - real")), "q>a p>a r>a", "q>a p>a r>a")
}

func TestP1401AllLeavesSeveral(t *testing.T) {
	s := trial.Cluster("node a cpu=4 zone:x - up", "node b cpu=2 - - cordon", "pod h - -1 cpu=1 - - - - - hold",
		"pod o - 9 cpu=9 - - - - - real", "pod p - 8 cpu=3 - - - - - real", "pod q - 7 cpu=2 - - - - - real", "pod r - 6 - - zone:y - - - real", "pod s - 5 cpu=1 - - - - - real", "pod t - 4 cpu=1 - - - - - real")
	allBind(t, s, "p>a s>a", "p>a s>a")
	made, _ := sched.All(s, false)
	arePending(t, made, "o q r t")
	if p := trial.Known(made, "h"); p.Node != "" {
		t.Errorf("%q", pod.Text(p))
	}
}

// What there is beside the pods that are bound stays as it is.
func TestP1401AllChangesNothingElse(t *testing.T) {
	const nodes = "node a cpu=4 zone:x k:v up\nnode b mem=1 - - cordon\n"
	const pods = "pod f - -1 cpu=1 - - - - a hold\npod g - -1 - - - - - - hold\npod o web 0 cpu=1 app:web zone:z - - a real\n"
	const budgets = "budget low app:web 9\n"
	s := trial.Cluster(nodes + pods + "pod p web 7 cpu=2 app:web zone,-gpu k:v zone/1 - real\npod q - 3 cpu=1 - - - - - real\n" + budgets)
	made, l := sched.All(s, false)
	want := nodes + pods + "pod p web 7 cpu=2 app:web zone,-gpu k:v zone/1 a real\npod q - 3 cpu=1 - - - - - real\n" + budgets
	if text.Text(made) != want || saidAll(l) != "p>a" {
		t.Errorf("%q, %q", text.Text(made), saidAll(l))
	}
}

func TestP1401AllOfNothingToDo(t *testing.T) {
	for _, s := range []state.State{
		{},
		trial.Cluster("node a cpu=4 zone:x k:v up", "budget low - 3"),
		trial.Cluster("node a cpu=4 zone:x k:v up", "pod h - -1 - - - - - - hold", "pod p web 3 cpu=1 app:web zone - - a real", "pod q - 0 - - - - - a real", "budget low app:web 3"),
		trial.Cluster("node a cpu=4 - - up", "pod p - 3 cpu=5 - - - - - real"),
		trial.Cluster("pod p - 3 - - - - - - real", "pod q - 5 - - - - - - real"),
	} {
		allBind(t, s, "", "")
	}
}

// eachCluster: four pods, each of them nowhere or on any of the nodes, with room or without.
func eachCluster() iter.Seq[state.State] {
	s := trial.Cluster("node a cpu=3,mem=2 zone:x - up", "node b cpu=4 disk:fast,zone:y k:v up", "node c cpu=2,mem=1 zone:x g:h up", "node d - - - up", "node e cpu=9 zone:z k:v! up",
		"pod p web 0 cpu=1 - - * zone/1 - real", "pod q web 3 cpu=2 - -disk g zone/2 - real", "pod r web -1 cpu=2 - zone - - - hold", "pod s db 5 cpu=1,mem=1 - - *:v - - real")
	return trial.Placings(s)
}

// picked is Next, by the chapter's words: of all that wait, and have a node, the one that is ahead of all others.
func picked(s state.State, pack bool) string {
	var first pod.Pod
	word := ""
	for _, p := range s.Pods {
		to, there := score.Choose(s, p, pack)
		if !there || p.Hold || p.Node != "" || word != "" && pod.Compare(first, p) < 0 {
			continue
		}
		first, word = p, p.Name+">"+to
	}
	return word
}

func TestP1401InEachCluster(t *testing.T) {
	for s := range eachCluster() {
		for _, pack := range []bool{false, true} {
			isNext(t, s, pack, picked(s, pack))
			isDone(t, s, pack)
		}
	}
}

// isDone: by one pick after another; what is sound stays so, and who is bound fits where it is.
func isDone(t *testing.T, s state.State, pack bool) {
	t.Helper()
	made, l := sched.All(s, pack)
	moved := s
	for _, b := range l {
		if picked(moved, pack) != said(b) || fit.Fit(moved, trial.Known(moved, b.Pod), b.To) != api.OK {
			t.Errorf("All(%q, %t): %q", text.Text(s), pack, saidAll(l))
		}
		moved = state.Move(moved, b.Pod, b.To)
	}
	if picked(moved, pack) != "" || !state.Same(made, moved) || state.Check(s) == api.OK && state.Check(made) != api.OK {
		t.Errorf("All(%q, %t): %q, %q", text.Text(s), pack, text.Text(made), saidAll(l))
	}
}

// At the limits: all nodes and all pods, and no room for half of them.
func TestP1401AtTheLimits(t *testing.T) {
	var s state.State
	for i := range api.MaxNodes {
		has := trial.Amounts("x", api.MaxList)
		for j := range has {
			has[j].N = 2
		}
		s.Nodes = append(s.Nodes, node.Node{Name: "n" + strconv.Itoa(100+i), Cap: has})
	}
	for i := range api.MaxPods {
		s.Pods = append(s.Pods, pod.Pod{Name: "p" + strconv.Itoa(1000+i), Prio: i, Need: trial.Amounts("x", api.MaxList)})
	}
	if e := state.Check(s); e != api.OK {
		t.Fatal(e)
	}
	for _, pack := range []bool{false, true} {
		made, l := sched.All(s, pack)
		for i, b := range l {
			at := i % api.MaxNodes
			if pack {
				at = i / 2
			}
			if want := s.Pods[api.MaxPods-1-i].Name + ">" + s.Nodes[at].Name; said(b) != want {
				t.Errorf("%t: %d: %q; want %q", pack, i, said(b), want)
			}
		}
		if len(l) != 2*api.MaxNodes || len(sched.Pending(made)) != api.MaxPods-len(l) || state.Check(made) != api.OK {
			t.Errorf("%t: %d are bound, %d left", pack, len(l), len(sched.Pending(made)))
		}
	}
}

// roomy: a cluster all lists of which have spare room; what is there would tell, were it read.
func roomy() state.State {
	return trial.Roomy(trial.Cluster("node a cpu=4,mem=4 zone:x - up", "node b cpu=8 zone:y k:v,x:y! up", "node c cpu=3 zone:x g:h up", "node d cpu=4 zone:y - cordon",
		"pod h - -1 cpu=1 - - - - - hold", "pod o web 0 cpu=1 - - - - a real", "pod p web 5 cpu=2 app:web zone,-gpu x,k:w zone/1 - real", "pod q db 7 cpu=2 app:db zone:x k - - real", "pod r db 7 cpu=9 app:db zone:x k - - real", "budget low app:web 1"), "db", "")
}

func tellsRoomy(t *testing.T, s state.State) {
	t.Helper()
	arePending(t, s, "q r p")
	areNext(t, s, "q>a", "q>a")
	allBind(t, s, "q>a p>b", "q>a p>b")
}

func TestP2NothingHandedInIsChanged(t *testing.T) {
	s := roomy()
	before := roomy()
	for name, call := range map[string]func(){
		"Pending":        func() { sched.Pending(s) },
		"Next":           func() { sched.Next(s, false) },
		"Next with pack": func() { sched.Next(s, true) },
		"All":            func() { sched.All(s, false) },
		"All with pack":  func() { sched.All(s, true) },
	} {
		call()
		if !state.Same(trial.WithSpare(s), trial.WithSpare(before)) {
			t.Errorf("%s: %q became %q", name, text.Text(before), text.Text(s))
		}
	}
	tellsRoomy(t, s)
}

// restful: clusters in which there is something to do, nothing, and not even a pod.
func restful() []state.State {
	done, _ := sched.All(roomy(), false)
	return []state.State{roomy(), trial.Roomy(done, "db", "a"), {Nodes: roomy().Nodes, Budgets: roomy().Budgets}}
}

// No answer is reached by a change of another one, nor by one of what was handed in; nor is that by one of an answer.
func TestP2AnswersNewMemory(t *testing.T) {
	for i, s := range restful() {
		pending := state.State{Pods: sched.Pending(s)}
		made, l := sched.All(s, false)
		told := text.Text(pending) + text.Text(made) + saidAll(l)
		trial.SpoilPods(sched.Pending(s))
		again, more := sched.All(s, false)
		trial.Spoil(again)
		if saidAll(more) != saidAll(l) {
			t.Errorf("%q; want %q", saidAll(more), saidAll(l))
		}
		trial.Overwrite(more, sched.Bound{Pod: "mine", To: "mine"})
		if !state.Same(trial.WithSpare(s), trial.WithSpare(restful()[i])) {
			t.Errorf("%q became %q", text.Text(restful()[i]), text.Text(s))
		}
		trial.Spoil(s)
		if got := text.Text(pending) + text.Text(made) + saidAll(l); got != told {
			t.Errorf("%q became %q", told, got)
		}
	}
}

// What is handed in may share lists; what is answered does not.
func TestP2AnswersShareNothing(t *testing.T) {
	s := trial.Cluster("node a cpu=9 zone:x - up", "pod p - 3 cpu=1 app:web zone k - - real", "pod q - 9 cpu=1 app:web zone k - - real")
	p := &s.Pods[0]
	p.Need, p.Labels, p.Sel, p.Tols = s.Pods[1].Need, s.Pods[1].Labels, s.Pods[1].Sel, s.Pods[1].Tols
	made, _ := sched.All(s, false)
	for _, l := range [][]pod.Pod{sched.Pending(s), made.Pods} {
		was := pod.Text(l[1])
		trial.SpoilPods(l[:1:1])
		if pod.Text(l[1]) != was {
			t.Errorf("%q became %q", was, pod.Text(l[1]))
		}
	}
}

func TestP3SameCallsAnswerTheSame(t *testing.T) {
	s := roomy()
	for range 3 {
		tellsRoomy(t, s)
		// what was asked of another cluster is not kept
		arePending(t, state.State{}, "")
		areNext(t, state.State{}, "", "")
		allBind(t, state.Drop(s, "q"), "p>b", "p>b")
		allBind(t, state.Move(s, "o", ""), "q>a p>a o>c", "q>a p>a o>c")
	}
}

// Whatever plain data is given, no call goes out by a panic, and all end, also where state.Check refuses it.
func TestP1EveryCallEnds(t *testing.T) {
	for i, s := range trial.WildClusters() {
		l := sched.Pending(s)
		for _, p := range l {
			if p.Hold || p.Node != "" {
				t.Errorf("cluster %d: %q", i, pod.Text(p))
			}
		}
		for _, pack := range []bool{false, true} {
			_, there := sched.Next(s, pack)
			if made, done := sched.All(s, pack); there != (len(done) > 0) || len(made.Nodes) != len(s.Nodes) || len(made.Pods) != len(s.Pods) {
				t.Errorf("cluster %d, %t: %t, %q", i, pack, there, saidAll(done))
			}
		}
	}
}

// Where names are there twice, or are none, what is done may leave all as it was: that ends, too.
func TestP1AllEndsWhereNothingIsDone(t *testing.T) {
	has := res.Vec{{Name: "cpu", N: 9}}
	for _, s := range []state.State{
		// the first one of its name is moved, the second one waits
		{Nodes: []node.Node{{Name: "a", Cap: has}}, Pods: []pod.Pod{{Name: "p", Node: "a"}, {Name: "p"}}},
		{Nodes: []node.Node{{Name: "a", Cap: has}, {Name: "b", Cap: has}}, Pods: []pod.Pod{{Name: "p", Node: "a"}, {Name: "p"}, {Name: "p"}}},
		{Nodes: []node.Node{{Name: "a", Cap: has}}, Pods: []pod.Pod{{Name: "p", Hold: true}, {Name: "p"}}},
		// where it goes is nowhere
		{Nodes: []node.Node{{Cap: has}}, Pods: []pod.Pod{{Name: "p"}, {Name: "q", Prio: 9}}},
		{Nodes: []node.Node{{Cap: has}, {Name: "a", Cap: has}}, Pods: []pod.Pod{{Name: "p", Node: "a"}, {}, {}}},
	} {
		for _, pack := range []bool{false, true} {
			sched.Pending(s)
			sched.Next(s, pack)
			sched.All(s, pack)
		}
	}
}
