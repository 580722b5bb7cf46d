package score_test

import (
	"cmp"
	"iter"
	"math"
	"slices"
	"strconv"
	"strings"
	"testing"

	"ballast/api"
	"ballast/fit"
	"ballast/label"
	"ballast/node"
	"ballast/pod"
	"ballast/ratio"
	"ballast/res"
	"ballast/score"
	"ballast/state"
	"ballast/taint"
	"ballast/text"
	"ballast/trial"
)

const greatest = 1<<63 - 1

func nan() float64 { return math.NaN() }
func inf() float64 { return math.Inf(1) }

func alike(x, y float64) bool { return ratio.Compare(x, y) == 0 }

func hasUsage(t *testing.T, s state.State, name, what string, want float64) {
	t.Helper()
	if x := score.Usage(s, name, what); !alike(x, want) {
		t.Errorf("Usage(%q, %q, %q): %v; want %v", text.Text(s), name, what, x, want)
	}
}

func hasOf(t *testing.T, s state.State, p pod.Pod, name string, want float64) {
	t.Helper()
	if x := score.Of(s, p, name); !alike(x, want) {
		t.Errorf("Of(%q, %q, %q): %v; want %v", text.Text(s), pod.Text(p), name, x, want)
	}
}

// isOrdered: in that order, by both calls.
func isOrdered(t *testing.T, s state.State, p pod.Pod, pack bool, want ...string) {
	t.Helper()
	if l := score.Order(s, p, pack); !slices.Equal(l, want) {
		t.Errorf("Order(%q, %q, %t): %q; want %q", text.Text(s), pod.Text(p), pack, l, want)
	}
	first := ""
	if len(want) > 0 {
		first = want[0]
	}
	if to, there := score.Choose(s, p, pack); to != first || there != (len(want) > 0) {
		t.Errorf("Choose(%q, %q, %t): %q, %t; want %q", text.Text(s), pod.Text(p), pack, to, there, first)
	}
}

// goes: in that order with pack and without it.
func goes(t *testing.T, s state.State, p pod.Pod, spread, pack string) {
	t.Helper()
	isOrdered(t, s, p, false, strings.Fields(spread)...)
	isOrdered(t, s, p, true, strings.Fields(pack)...)
}

// partly: on a some, or all, is in use, on b some or nothing, on c a third; d has nothing.
func partly() state.State {
	return trial.Cluster("node a cpu=4,mem=8 - - up", "node b cpu=4,mem=8 zone:x k:v! cordon", "node c cpu=3 - - up", "node d - - - up",
		"pod p web 7 cpu=1,mem=5 - - - - a real", "pod q - -1 mem=3 - - - - a hold", "pod r web 0 cpu=4 - - k - b real", "pod s - 0 cpu=1 - - - - c real", "pod t - 0 cpu=9,gpu=9 - - - - - real", "pod u - 0 - - - - - d real", "budget low - 2")
}

func TestP1301Usage(t *testing.T) {
	s := partly()
	for _, c := range []struct {
		name, what string
		want       float64
	}{
		{"a", "cpu", 0.25}, {"a", "mem", 1},
		{"b", "cpu", 1}, {"b", "mem", 0},
		{"c", "cpu", 1.0 / 3},
	} {
		hasUsage(t, s, c.name, c.what, c.want)
	}
	// what is nowhere, or goes elsewhere, is not in use there
	hasUsage(t, state.Drop(s, "s"), "c", "cpu", 0)
	hasUsage(t, state.Move(s, "s", ""), "c", "cpu", 0)
	hasUsage(t, state.Move(s, "s", "a"), "c", "cpu", 0)
	hasUsage(t, state.Move(s, "s", "a"), "a", "cpu", 0.5)
	hasUsage(t, state.Move(s, "q", "b"), "b", "mem", 0.375)
	hasUsage(t, state.Move(s, "q", "b"), "a", "mem", 0.625)
	// more than all
	hasUsage(t, state.Move(s, "r", "a"), "a", "cpu", 1.25)
	hasUsage(t, state.Move(s, "t", "c"), "c", "cpu", 10.0/3)
}

func TestP1301UsageOfNoNode(t *testing.T) {
	lost := state.Move(partly(), "r", "none")
	for _, what := range []string{"cpu", "mem", "gpu", ""} {
		for _, name := range []string{"", "-", "e", "aa", "A", "a ", "p", "t", "low", "x", "zone", "cpu", "none"} {
			hasUsage(t, partly(), name, what, nan())
			hasUsage(t, lost, name, what, nan())
			hasUsage(t, state.State{}, name, what, nan())
		}
		hasUsage(t, trial.Cluster("pod a - 0 cpu=1 - - - - - real"), "a", what, nan())
		hasUsage(t, trial.Cluster("pod a - 0 cpu=1 - - - - - real"), "", what, nan())
	}
}

// Of what the node has not 0 by 0 is NaN, anything else by 0 is +Inf.
func TestP1301UsageOfNoAmount(t *testing.T) {
	s := partly()
	for _, what := range []string{"gpu", "", "-", "cp", "cpuu", "CPU", "cpu=4", "cpu,mem", "me", "a", "p", "zone", "k"} {
		for _, name := range []string{"a", "b", "c", "d"} {
			hasUsage(t, s, name, what, nan())
		}
	}
	hasUsage(t, s, "c", "mem", nan())
	hasUsage(t, s, "d", "cpu", nan())
	over := state.Move(state.Move(s, "t", "a"), "p", "c")
	hasUsage(t, over, "a", "gpu", inf())
	hasUsage(t, over, "c", "mem", inf())
	hasUsage(t, over, "c", "gpu", nan())
	hasUsage(t, state.Move(s, "t", "d"), "d", "cpu", inf())
	hasUsage(t, state.Move(s, "t", "d"), "d", "mem", nan())
}

// It is one float64 by another.
func TestP1301UsageIsAFloat(t *testing.T) {
	s := trial.Cluster("node a cpu=9223372036854775807 - - up", "node b mem=9007199254740993 - - up", "node c disk=3 - - up",
		"pod p - 0 cpu=1 - - - - a real", "pod q - 0 mem=9007199254740992 - - - - b real", "pod r - 0 cpu=9223372036854775806,disk=9223372036854775807 - - - - - real")
	hasUsage(t, s, "a", "cpu", 0x1p-63)
	hasUsage(t, s, "b", "mem", 1)
	hasUsage(t, state.Move(s, "r", "a"), "a", "cpu", 1)
	hasUsage(t, state.Move(s, "r", "c"), "c", "disk", 0x1p63/3)
}

// unsayable: needs that cannot be added to another one of cpu.
func unsayable() []res.Vec {
	return []res.Vec{{{Name: "cpu", N: greatest}}, {{Name: "cpu", N: greatest}, {Name: "gpu", N: 1}}, trial.Amounts("x", api.MaxList)}
}

func TestP1301UsageWhereUsedIsAnError(t *testing.T) {
	s := partly()
	for _, need := range unsayable() {
		for _, name := range []string{"o", "z"} {
			untold := state.Put(s, pod.Pod{Name: name, Need: need, Node: "a"})
			if _, e := state.Used(untold, "a"); e == api.OK {
				t.Fatalf("%q: no error", text.Text(untold))
			}
			hasUsage(t, untold, "a", "cpu", 0)
			hasUsage(t, untold, "a", "mem", 0)
			for _, what := range []string{"gpu", "x0", ""} {
				hasUsage(t, untold, "a", what, nan())
			}
			// on the others it can be told
			hasUsage(t, untold, "b", "cpu", 1)
			hasUsage(t, untold, "c", "cpu", 1.0/3)
			hasUsage(t, untold, "e", "cpu", nan())
		}
	}
}

// shared: a has two amounts, b one, c three, d none, e one that nobody needs.
func shared() state.State {
	return trial.Cluster("node a cpu=4,mem=8 - - up", "node b cpu=8 - - up", "node c cpu=8,disk=2,mem=16 - - up", "node d - - - up", "node e gpu=1 - - up",
		"pod o - 0 cpu=1 - - - - a real", "pod p web 0 cpu=1,mem=4 - - - - a real", "pod q - 0 cpu=2 - - - - - real", "pod r - 0 cpu=1 - - - - b real", "pod s - 0 disk=1,mem=8 - - - - c real", "pod h - -1 cpu=1 - - - - c hold")
}

func TestP1301Of(t *testing.T) {
	s := shared()
	for _, c := range []struct {
		p    pod.Pod
		name string
		want float64
	}{
		// on that node already
		{trial.Known(s, "p"), "a", 0.5}, {trial.Known(s, "r"), "b", 0.125}, {trial.Known(s, "s"), "c", 1.125 / 3}, {trial.Known(s, "h"), "c", 1.125 / 3},
		// on another one
		{trial.Known(s, "p"), "b", 0.25}, {trial.Known(s, "r"), "a", 0.625}, {trial.Known(s, "p"), "c", 1.5 / 3}, {trial.Known(s, "h"), "a", 0.625},
		// nowhere
		{trial.Known(s, "q"), "a", 0.75}, {trial.Known(s, "q"), "b", 0.375}, {trial.Known(s, "q"), "c", 1.375 / 3},
		// in no cluster
		{trial.Comer("new - 0 cpu=2 - - - - - real"), "a", 0.75}, {trial.Comer("new - -1 cpu=2 - - - - - hold"), "a", 0.75}, {trial.Comer("new - 0 - - - - - - real"), "a", 0.5},
		{trial.Comer("new - 0 - - - - - - real"), "c", 1.125 / 3}, {trial.Comer("a - 0 cpu=8 - - - - - real"), "b", 1.125},
		// where it has no room, and needs what is not there
		{trial.Comer("new - 0 cpu=6 - - - - - real"), "a", 1.25}, {trial.Comer("new - 0 mem=16 - - - - - real"), "a", 1.5}, {trial.Comer("new - 0 gpu=9,mem=9 - - - - - real"), "b", 0.125},
		{trial.Comer("new - 0 cpu=8,gpu=3 - - - - - real"), "e", 3},
		{trial.Known(s, "p"), "e", 0}, {trial.Known(s, "q"), "e", 0},
	} {
		hasOf(t, s, c.p, c.name, c.want)
		// where it is told to be by now does not bear on it
		for _, on := range []string{"", "a", "b", "nowhere"} {
			c.p.Node = on
			hasOf(t, s, c.p, c.name, c.want)
		}
	}
}

func TestP1301OfNone(t *testing.T) {
	s := shared()
	for _, p := range []pod.Pod{trial.Known(s, "p"), trial.Known(s, "q"), trial.Known(s, "h"), trial.Comer("new - 0 cpu=2 - - - - a real"), {}} {
		for _, name := range []string{"", "-", "f", "aa", "A", "a ", "p", "q", "cpu"} {
			hasOf(t, s, p, name, nan())
			hasOf(t, state.State{}, p, name, nan())
		}
		hasOf(t, state.Move(s, "q", "none"), p, "none", nan())
		hasOf(t, trial.Cluster("pod a - 0 cpu=1 - - - - - real"), p, "a", nan())
		hasOf(t, trial.Cluster("pod a - 0 cpu=1 - - - - - real"), p, "", nan())
		// it is there, but has no amounts
		hasOf(t, s, p, "d", nan())
		hasOf(t, state.Move(s, "q", "d"), p, "d", nan())
	}
}

// One of its Name with another Need: what that one has in use does not count, what this one needs does.
func TestP1301OfAnotherNeed(t *testing.T) {
	s := shared()
	for need, want := range map[string][3]float64{
		"-":           {0.125, 0.125, 1.125 / 3},
		"cpu=1":       {0.25, 0.25, 1.25 / 3},
		"cpu=3,mem=8": {1, 0.5, 2.0 / 3},
		"mem=16":      {1.125, 0.125, 2.125 / 3},
		"disk=1":      {0.125, 0.125, 1.625 / 3},
		"gpu=1":       {0.125, 0.125, 1.125 / 3},
	} {
		for _, rest := range []string{" - - - - - real", " - - - - a real", " app:db zone * zone/1 c real"} {
			p := trial.Comer("p web 0 " + need + rest)
			for i, name := range []string{"a", "b", "c"} {
				hasOf(t, s, p, name, want[i])
			}
		}
	}
	// one of another Name stands beside it
	hasOf(t, s, trial.Comer("pp web 0 cpu=1 - - - - a real"), "a", 0.625)
	hasOf(t, s, trial.Comer("pp web 0 - - - - - a real"), "a", 0.5)
}

// The amounts are added in order, from the first on: float64s added otherwise are not the same.
func TestP1301OfAddsInOrder(t *testing.T) {
	s := trial.Cluster("node a a=10,b=10,c=10 - - up", "pod p - 0 a=1,b=2 - - - - a real")
	p := trial.Comer("q - 0 c=3 - - - - - real")
	first, second, third := 0.1, 0.2, 0.3
	if (first+second+third)/3 == (third+second+first)/3 {
		t.Fatal("they are the same")
	}
	hasOf(t, s, p, "a", (first+second+third)/3)
	back := trial.Cluster("node a a=10,b=10,c=10 - - up", "pod p - 0 b=2,c=1 - - - - a real")
	hasOf(t, back, trial.Comer("q - 0 a=3 - - - - - real"), "a", (third+second+first)/3)
}

// Whether it fits is not asked.
func TestP1301OfWhereItDoesNotFit(t *testing.T) {
	s := trial.Cluster("node a cpu=4 zone:x - cordon", "node b cpu=4 zone:x k:v! up", "node c cpu=4 - - up", "pod p web 0 cpu=2 - zone:y - zone/1 - real", "pod q web 0 cpu=1 - - - - b real")
	p := trial.Known(s, "p")
	for name, want := range map[string]float64{"a": 0.5, "b": 0.75, "c": 0.5} {
		hasOf(t, s, p, name, want)
	}
	if l := fit.Nodes(s, p); len(l) != 0 {
		t.Errorf("%q", l)
	}
}

func TestP1301OfWhereUsedIsAnError(t *testing.T) {
	s := shared()
	for _, need := range unsayable() {
		for _, name := range []string{"n", "z"} {
			// with it there it cannot be told
			p := pod.Pod{Name: name, Need: need}
			hasOf(t, s, p, "a", 0)
			hasOf(t, s, p, "d", nan())
			hasOf(t, state.Put(s, p), p, "a", 0)
			p.Node = "a"
			hasOf(t, state.Put(s, p), p, "a", 0)
			hasOf(t, state.Put(s, p), trial.Known(s, "q"), "a", 0)
			hasOf(t, state.Put(s, p), trial.Known(s, "q"), "b", 0.375)
			// with another one of its Name it can
			hasOf(t, state.Put(s, p), trial.Comer(name+" - 0 cpu=2 - - - - - real"), "a", 0.75)
		}
	}
	// alone it can be told
	hasOf(t, s, pod.Pod{Name: "z", Need: res.Vec{{Name: "gpu", N: greatest}}}, "e", 0x1p63)
}

func TestP1301OrderByScore(t *testing.T) {
	// with 1 of cpu more: a 3/8, b 3/4, c 1/2, d 1, e 1/10
	s := trial.Cluster("node a cpu=8 - - up", "node b cpu=4 - - up", "node c cpu=2 - - up", "node d cpu=1 - - up", "node e cpu=10 - - up", "pod p - 0 cpu=2 - - - - a real", "pod q - 0 cpu=2 - - - - b real")
	goes(t, s, trial.Comer("new - 0 cpu=1 - - - - - real"), "e a c b d", "d b c a e")
	goes(t, s, trial.Comer("new - -1 cpu=1 - - - - - hold"), "e a c b d", "d b c a e")
	// as if nowhere
	goes(t, s, trial.Known(s, "p"), "e a b c", "b c a e")
	goes(t, s, trial.Known(s, "q"), "e a b c", "c a b e")
	goes(t, s, trial.Comer("p - 0 cpu=1 - - - - a real"), "e a c b d", "d b c a e")
	goes(t, s, trial.Comer("q - 0 cpu=4 - - - - a real"), "e a b", "b a e")
	goes(t, s, trial.Comer("new - 0 cpu=6 - - - - - real"), "e a", "a e")
}

func TestP1301OrderByTheMeanOfAll(t *testing.T) {
	// a 1/4 and 1, b 1 and 0, c 1/2 and 1/2, d 3/4 alone
	s := trial.Cluster("node a cpu=4,mem=4 - - up", "node b cpu=1,mem=4 - - up", "node c cpu=2,mem=4 - - up", "node d cpu=4 - - up", "pod p - 0 mem=4 - - - - a real", "pod q - 0 mem=2 - - - - c real", "pod r - 0 cpu=2 - - - - d real")
	goes(t, s, trial.Comer("new - 0 cpu=1 - - - - - real"), "b c a d", "d a b c")
}

// aside: what each node asks to be borne; the fewer it asks, the more of it would be in use.
const aside = `node a cpu=8 - g:h,k:v up
node b cpu=4 - k:v up
node c cpu=2 - - up
node d cpu=1 - x:y! up
node e cpu=1 - x:y!,g:h up`

func TestP1301OrderBySoftAheadOfScore(t *testing.T) {
	s := trial.Cluster(aside)
	for tols, want := range map[string][2]string{
		"-":           {"c b a", "c b a"},
		"k":           {"b c a", "c b a"},
		"k:v":         {"b c a", "c b a"},
		"k:w":         {"c b a", "c b a"},
		"g":           {"c a b", "c b a"},
		"g,k":         {"a b c", "c b a"},
		"x":           {"c d b e a", "d c e b a"},
		"x,k":         {"b c d a e", "d c b e a"},
		"x,g":         {"c d e a b", "d e c b a"},
		"*":           {"a b c d e", "d e c b a"},
		"*:y":         {"c d b e a", "d c e b a"},
		"*:h,*:v,*:y": {"a b c d e", "d e c b a"},
	} {
		goes(t, s, trial.Comer("new web 0 cpu=1 - - "+tols+" - - real"), want[0], want[1])
	}
}

func TestP1301OrderOfManySoft(t *testing.T) {
	s := trial.Cluster("node a cpu=9 - a:a,a:b,a:c,a:d,a:e,a:f,a:g,a:h up", "node b cpu=5 - a:a,a:b,a:c,a:d,a:e,a:f,a:g,b:b! up", "node c cpu=7 - a:h up", "node d cpu=6 - a:a,a:h up")
	goes(t, s, trial.Comer("new - 0 cpu=1 - - b - - real"), "c d b a", "c d b a")
	goes(t, s, trial.Comer("new - 0 cpu=1 - - a:h,b - - real"), "c d a b", "c d b a")
	goes(t, s, trial.Comer("new - 0 cpu=1 - - a,b - - real"), "a c d b", "b d c a")
}

func TestP1301OrderByNameWhereAllIsAlike(t *testing.T) {
	// a quarter, of whatever there is
	s := trial.Cluster("node b cpu=4 - - up", "node 10 cpu=4,mem=8 - - up", "node aa cpu=8 - - up", "node 9 cpu=8 - - up", "node a cpu=2,mem=2 - - up", "node c cpu=1 - - up", "node d cpu=100 - - up",
		"pod p - 0 mem=2 - - - - 10 real", "pod q - 0 cpu=1 - - - - aa real", "pod r - 0 cpu=1 - - - - 9 real")
	goes(t, s, trial.Comer("new - 0 cpu=1 - - - - - real"), "d 10 9 a aa b c", "c 10 9 a aa b d")
	soft := trial.Cluster("node b cpu=4 - k:v up", "node a cpu=4 - k:v up", "node d cpu=4 - - up", "node c cpu=4 - g:h! up")
	goes(t, soft, trial.Comer("new - 0 cpu=1 - - g - - real"), "c d a b", "c d a b")
	// two quantities, but one float64
	floats := trial.Cluster("node b cpu=4611686018427387903 - - up", "node a cpu=4611686018427387903 - - up", "pod p - 0 cpu=1 - - - - a real", "pod q - 0 cpu=2 - - - - b real")
	goes(t, floats, trial.Comer("new - 0 cpu=2305843009213693952 - - - - - real"), "a b", "a b")
}

// As many nodes as there may be, of which many are alike.
func TestP1301OrderByNameOfManyAlike(t *testing.T) {
	var s state.State
	var alikes [4][]string
	for i := range api.MaxNodes {
		n := node.Node{Name: "n" + strconv.Itoa(100+i), Cap: res.Vec{{Name: "cpu", N: int64(i*7%4) + 1}}}
		s.Nodes = append(s.Nodes, n)
		alikes[i*7%4] = append(alikes[i*7%4], n.Name)
	}
	p := trial.Comer("new - 0 cpu=1 - - - - - real")
	isOrdered(t, s, p, true, slices.Concat(alikes[0], alikes[1], alikes[2], alikes[3])...)
	isOrdered(t, s, p, false, slices.Concat(alikes[3], alikes[2], alikes[1], alikes[0])...)
	isOrdered(t, s, trial.Comer("new - 0 - - - - - - real"), true, trial.NodeNames(s)...)
}

// A node that has nothing is behind all others of as few soft taints, with pack ahead of them.
func TestP1301OrderWithNaN(t *testing.T) {
	s := trial.Cluster("node a - - - up", "node b cpu=4 - - up", "node c - - k:v up", "node d cpu=2 - - up", "node e - - - up", "node f cpu=1 - k:v up", "node g cpu=1 - - up", "pod p - 0 cpu=1 - - - - b real", "pod q - 0 cpu=2 - - - - d real")
	none := trial.Comer("new - 0 - - - - - - real")
	goes(t, s, none, "g b d a e f c", "a e d b g c f")
	borne := trial.Comer("new - 0 - - - k - - real")
	goes(t, s, borne, "f g b d a c e", "a c e d b f g")
	goes(t, s, trial.Comer("new - 0 cpu=1 - - k - - real"), "b f g", "f g b")
	goes(t, trial.Cluster("node b - - - up", "node c - - - up", "node a - - - up"), none, "a b c", "a b c")
	goes(t, trial.Cluster("node a - - - up", "node b cpu=1 - - up"), none, "b a", "a b")
	goes(t, trial.Cluster("node a cpu=1 - - up", "node b - - - up"), none, "a b", "b a")
	goes(t, trial.Cluster("node a - - - up"), none, "a", "a")
	// all in use is ahead of what is no number, too
	goes(t, trial.Cluster("node a - - - up", "node b cpu=1 - - up", "pod p - 0 cpu=1 - - - - b real"), none, "b a", "a b")
}

func TestP1301OrderOfNone(t *testing.T) {
	s := trial.Cluster("node a cpu=4 zone:x - cordon", "node b cpu=4 zone:x k:v! up", "node c cpu=4 - - up", "node d cpu=1 zone:y - up", "node e cpu=4 zone:z - up", "pod p web 0 cpu=1 - - - - e real", "pod q web 0 cpu=4 - - - - - real")
	for _, words := range []string{
		"new web 0 cpu=2 - zone - zone/1 - real",
		"new - 0 cpu=5 - - * - - real",
		"new - 0 gpu=1 - - * - - real",
		"new - 0 - - zone:w * - - real",
		"new - 0 - - zone:x - - - real",
		"new - 0 - - - * rack/9 - real",
		"q web 0 cpu=4 - zone - - - real",
		"new - -1 cpu=4 - zone - - - hold",
	} {
		goes(t, s, trial.Comer(words), "", "")
		goes(t, state.State{}, trial.Comer(words), "", "")
	}
	goes(t, state.State{}, pod.Pod{}, "", "")
	goes(t, trial.Cluster("pod p - 0 - - - - - - real"), trial.Comer("p - 0 - - - - - - real"), "", "")
	// each reason leaves out its node alone
	goes(t, s, trial.Comer("new web 0 cpu=1 - - - - - real"), "c e d", "d e c")
	goes(t, s, trial.Comer("new web 0 cpu=1 - - - zone/1 - real"), "d", "d")
	goes(t, s, trial.Comer("new db 0 cpu=2 - - k - - real"), "b c e", "e b c")
}

// eachCluster: four pods, each of them nowhere or on any of the nodes, with room or without.
func eachCluster() iter.Seq[state.State] {
	s := trial.Cluster("node a cpu=3,mem=2 zone:x - up", "node b cpu=4 disk:fast,zone:y k:v up", "node c cpu=2,mem=1 zone:x g:h up", "node d - - - up", "node e cpu=9 zone:z k:v! up",
		"pod p web 0 cpu=1 - - * zone/1 - real", "pod q web 0 - - -disk g zone/2 - real", "pod r web -1 cpu=2 - zone - - - hold", "pod s db 5 cpu=1,mem=1 - - *:v - - real")
	return trial.Placings(s)
}

// thereTells is Of, asked of the cluster that has it there.
func thereTells(s state.State, p pod.Pod, n node.Node) float64 {
	p.Node = n.Name
	there := state.Put(s, p)
	var l []float64
	for _, a := range n.Cap {
		l = append(l, score.Usage(there, n.Name, a.Name))
	}
	return ratio.Mean(l)
}

// ordered is Order, each two nodes asked one after another by the chapter's words.
func ordered(s state.State, p pod.Pod, pack bool) []string {
	way := 1
	if pack {
		way = -1
	}
	fits := fit.Nodes(s, p)
	var l []node.Node
	for _, n := range s.Nodes {
		if slices.Contains(fits, n.Name) {
			l = append(l, n)
		}
	}
	slices.SortStableFunc(l, func(a, b node.Node) int {
		return cmp.Or(
			cmp.Compare(taint.Soft(p.Tols, a.Taints), taint.Soft(p.Tols, b.Taints)),
			way*ratio.Compare(thereTells(s, p, a), thereTells(s, p, b)),
			strings.Compare(a.Name, b.Name))
	})
	return trial.NodeNames(state.State{Nodes: l})
}

func TestP1301IsWhatBeingThereTells(t *testing.T) {
	for s := range eachCluster() {
		for _, p := range s.Pods {
			for _, n := range s.Nodes {
				hasOf(t, s, p, n.Name, thereTells(s, p, n))
			}
			isOrdered(t, s, p, false, ordered(s, p, false)...)
			isOrdered(t, s, p, true, ordered(s, p, true)...)
		}
	}
}

// noughts: nodes that have 0, or less, of what is in use on them, which no sound cluster has; of such Usage is an infinity, NaN, or below 0.
func noughts() state.State {
	s := trial.Cluster("node a cpu=1 - - up", "node b cpu=1 - - up", "node c cpu=1 - - up", "node d cpu=4 - - up", "node e - - - up", "node f cpu=4 - - up",
		"pod p - 0 cpu=1 - - - - a real", "pod q - 0 cpu=1 - - - - c real", "pod r - 0 cpu=3 - - - - d real", "pod s - 0 - - - - - - real")
	for i, n := range []int64{0, 0, -2} {
		s.Nodes[i].Cap = res.Vec{{Name: "cpu", N: n}}
	}
	return s
}

func TestP1301InfinitiesAndNaN(t *testing.T) {
	s := noughts()
	p := trial.Known(s, "s")
	for i, want := range []float64{inf(), nan(), -0.5, 0.75, nan(), 0} {
		hasOf(t, s, p, s.Nodes[i].Name, want)
	}
	hasUsage(t, s, "a", "cpu", inf())
	hasUsage(t, s, "b", "cpu", nan())
	// whichever of them fit has
	isOrdered(t, s, p, false, ordered(s, p, false)...)
	isOrdered(t, s, p, true, ordered(s, p, true)...)
}

// At the limits: all nodes and all pods, each list as long as it may be.
func TestP1301AtTheLimits(t *testing.T) {
	var s state.State
	for i := range api.MaxNodes {
		has := trial.Amounts("x", api.MaxList)
		for j := range has {
			has[j].N = int64(1000 - i)
		}
		s.Nodes = append(s.Nodes, node.Node{Name: "n" + strconv.Itoa(100+i), Cap: has, Labels: label.Set{{Key: "zone", Val: "v" + strconv.Itoa(i)}}})
	}
	for i := range api.MaxPods {
		s.Pods = append(s.Pods, pod.Pod{Name: "p" + strconv.Itoa(1000+i), Owner: "web", Need: trial.Amounts("x", api.MaxList), Key: "zone", Most: 2, Node: s.Nodes[i%api.MaxNodes].Name})
	}
	if e := state.Check(s); e != api.OK {
		t.Fatal(e)
	}
	p := s.Pods[5]
	hasOf(t, s, p, "n100", ratio.Mean(slices.Repeat([]float64{5.0 / 1000}, api.MaxList)))
	hasOf(t, s, p, "n105", ratio.Mean(slices.Repeat([]float64{4.0 / 995}, api.MaxList)))
	// where it is has one less than the others
	rising := slices.Concat([]string{"n105"}, trial.NodeNames(s)[:5], trial.NodeNames(s)[6:])
	isOrdered(t, s, p, false, rising...)
	slices.Reverse(rising)
	isOrdered(t, s, p, true, rising...)
	// one more, as one that goes leaves its own domain behind all others
	p.Most = 1
	isOrdered(t, s, p, true, "n105")
}

// roomy: a cluster and a pod, all lists of which have spare room; what is there would tell, were it read.
func roomy() (state.State, pod.Pod) {
	s := trial.Cluster("node a cpu=4,mem=4 zone:x - up", "node b cpu=8 zone:y k:v,x:y! up", "node c cpu=3 zone:x g:h up", "node d - zone:z - up", "node e cpu=4 zone:y - cordon",
		"pod o web 0 cpu=1 - - - - a real", "pod p web 5 cpu=2 app:web zone,-gpu x,k:w zone/1 b real", "pod q db 0 cpu=1 - - - - b real", "budget low app:web 1")
	return trial.Roomy(s, "db", "a"), trial.RoomyPod(trial.Known(s, "p"))
}

func tellsRoomy(t *testing.T, s state.State, p pod.Pod) {
	t.Helper()
	hasUsage(t, s, "b", "cpu", 0.375)
	hasUsage(t, s, "a", "spare", nan())
	hasUsage(t, s, "spare", "cpu", nan())
	hasOf(t, s, p, "a", 0.375)
	hasOf(t, s, p, "b", 0.375)
	hasOf(t, s, p, "d", nan())
	hasOf(t, s, p, "spare", nan())
	p.Key, p.Most = "", 0
	goes(t, s, p, "a b c", "a c b")
}

func TestP2NothingHandedInIsChanged(t *testing.T) {
	s, p := roomy()
	before, podBefore := roomy()
	for name, call := range map[string]func(){
		"Usage":            func() { score.Usage(s, "b", "cpu") },
		"Usage of none":    func() { score.Usage(s, "z", "cpu") },
		"Of":               func() { score.Of(s, p, "b") },
		"Of elsewhere":     func() { score.Of(s, p, "a") },
		"Of none":          func() { score.Of(s, p, "z") },
		"Order":            func() { score.Order(s, p, false) },
		"Order with pack":  func() { score.Order(s, p, true) },
		"Choose":           func() { score.Choose(s, p, false) },
		"Choose with pack": func() { score.Choose(s, p, true) },
	} {
		call()
		if !state.Same(trial.WithSpare(s), trial.WithSpare(before)) || !pod.Same(trial.PodWithSpare(p), trial.PodWithSpare(podBefore)) {
			t.Errorf("%s: %q became %q, %q became %q", name, text.Text(before), text.Text(s), pod.Text(podBefore), pod.Text(p))
		}
	}
	tellsRoomy(t, s, p)
}

// No answer is reached by a change of another one, nor by one of what was handed in.
func TestP2AnswersNewMemory(t *testing.T) {
	s, p := roomy()
	for _, pack := range []bool{false, true} {
		want := ordered(s, p, pack)
		l := score.Order(s, p, pack)
		trial.Overwrite(score.Order(s, p, pack), "mine")
		isOrdered(t, s, p, pack, want...)
		trial.Overwrite(s.Nodes, node.Node{Name: "mine"})
		trial.Overwrite(s.Pods, pod.Pod{Name: "mine"})
		if len(want) == 0 || !slices.Equal(l, want) {
			t.Errorf("%q; want %q", l, want)
		}
		s, p = roomy()
	}
}

func TestP3SameCallsAnswerTheSame(t *testing.T) {
	s, p := roomy()
	for range 3 {
		tellsRoomy(t, s, p)
		// what was asked of another cluster, or of another pod, is not kept
		goes(t, state.State{}, p, "", "")
		hasUsage(t, state.State{}, "b", "cpu", nan())
		hasUsage(t, state.Drop(s, "q"), "b", "cpu", 0.25)
		hasOf(t, state.Drop(s, "q"), p, "b", 0.25)
		goes(t, s, trial.Comer("p - 0 cpu=8 - - x - - real"), "", "")
		goes(t, s, trial.Comer("q - 0 - - - * - - real"), "c a b d", "d b a c")
	}
}

// Whatever plain data is given, no call goes out by a panic, also where state.Check or pod.Check refuses it.
func TestP1EveryCallEnds(t *testing.T) {
	for _, s := range trial.WildClusters() {
		for _, name := range []string{"", "\xff", "a", strings.Repeat("a", 1<<20)} {
			for _, what := range []string{"", "cpu", "\xff", strings.Repeat("a", 1<<20)} {
				score.Usage(s, name, what)
			}
			for _, p := range trial.WildPods() {
				score.Of(s, p, name)
			}
		}
		for _, p := range trial.WildPods() {
			for _, pack := range []bool{false, true} {
				l := score.Order(s, p, pack)
				if to, there := score.Choose(s, p, pack); there != (len(l) > 0) || there && to != l[0] {
					t.Errorf("%q, %t; %q", to, there, l)
				}
			}
		}
	}
}
