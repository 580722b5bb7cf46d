package spread_test

import (
	"iter"
	"slices"
	"strconv"
	"strings"
	"testing"

	"ballast/api"
	"ballast/budget"
	"ballast/label"
	"ballast/node"
	"ballast/pod"
	"ballast/res"
	"ballast/spread"
	"ballast/state"
	"ballast/text"
	"ballast/trial"
)

// zones: two nodes of zone x, one of y, one of z that is closed and not borne, one that has another label alone, one that has none.
const zones = `node a - rack:r,zone:x - up
node b - zone:y - up
node c - rack:q,zone:x - up
node d - rack:x - up
node e - zone:z k:v! cordon
node f - - - up`

// aPod is a line: one that is spread over zones, not above most.
func aPod(name, owner, most, on string) string {
	return "pod " + name + " " + owner + " 0 - - - - zone/" + most + " " + on + " real"
}

func aWeb(name, on string) string { return aPod(name, "web", "1", on) }

// newcomer is one that is not in the cluster.
func newcomer(owner string) pod.Pod { return pod.Pod{Name: "new", Owner: owner, Key: "zone", Most: 1} }

func hasDomains(t *testing.T, s state.State, key string, want ...string) {
	t.Helper()
	if l := spread.Domains(s, key); !slices.Equal(l, want) {
		t.Errorf("Domains(%q, %q): %q; want %q", text.Text(s), key, l, want)
	}
}

func TestP1101Domains(t *testing.T) {
	s := trial.Cluster(zones)
	hasDomains(t, s, "zone", "x", "y", "z")
	hasDomains(t, s, "rack", "q", "r", "x")
	// one Val of several nodes is told once, wherever they stand
	for _, vals := range []string{"x", "x x", "x x x", "x - x", "- x -"} {
		hasDomains(t, labelled(t, vals), "k", "x")
	}
	// they rise, in whatever order the nodes have them
	for _, vals := range []string{"a b c", "c b a", "b c a", "b a c", "c - a b", "b a b c a c", "c c b - a a"} {
		hasDomains(t, labelled(t, vals), "k", "a", "b", "c")
	}
	hasDomains(t, labelled(t, "b 9 aa a 10 ab"), "k", "10", "9", "a", "aa", "ab", "b")
	// pods have labels, too, but make no domain
	hasDomains(t, trial.Cluster("node a - k:a - up", "pod p - 0 - k:b - - k/1 a real"), "k", "a")
}

// labelled: nodes that have these Vals of label k, one after another (none: -).
func labelled(t *testing.T, vals string) state.State {
	t.Helper()
	var lines []string
	for i, val := range strings.Fields(vals) {
		label := "-"
		if val != "-" {
			label = "j:w,k:" + val + ",l:z"
		}
		lines = append(lines, "node n"+strconv.Itoa(i)+" - "+label+" - up")
	}
	return trial.Cluster(lines...)
}

func TestP1101DomainsOfNone(t *testing.T) {
	for _, key := range []string{"zone", "", "x", "rac", "rackk", "zon", "ZONE", "-", "zone:x"} {
		hasDomains(t, state.State{}, key)
		hasDomains(t, state.State{Nodes: []node.Node{}}, key)
		hasDomains(t, trial.Cluster("node a - - - up", "node b - rack:x - up"), key)
		hasDomains(t, trial.Cluster("node a - - - up", "node b - - zone:x up"), key)
		hasDomains(t, trial.Cluster("pod p web 0 - zone:x - - zone/1 - real"), key)
		if key != "zone" {
			hasDomains(t, trial.Cluster(zones), key)
		}
	}
}

// counts: of each domain that many, of every other none.
func counts(t *testing.T, s state.State, p pod.Pod, want map[string]int) {
	t.Helper()
	for _, domain := range []string{"x", "y", "z", "r", "q", "w", "", "a", "b", "d", "f", "X", "zone", "zone:x", "web"} {
		if n := spread.Count(s, p, domain); n != want[domain] {
			t.Errorf("Count(%q, %q, %q): %d; want %d", text.Text(s), pod.Text(p), domain, n, want[domain])
		}
	}
}

func TestP1101Count(t *testing.T) {
	s := trial.Cluster(zones, aWeb("p", "a"), aWeb("q", "c"), aWeb("r", "b"), aWeb("s", "a"), aWeb("t", "-"), aPod("u", "db", "3", "a"), aPod("v", "db", "3", "e"))
	counts(t, s, newcomer("web"), map[string]int{"x": 3, "y": 1})
	counts(t, s, newcomer("db"), map[string]int{"x": 1, "z": 1})
	counts(t, s, newcomer("cache"), nil)
	// an owner whose name begins so is another one, and a pod's name is no owner
	counts(t, s, newcomer("we"), nil)
	counts(t, s, newcomer("webb"), nil)
	counts(t, s, newcomer("p"), nil)
	counts(t, s, trial.Known(s, "t"), map[string]int{"x": 3, "y": 1})
	counts(t, s, trial.Known(s, "p"), map[string]int{"x": 2, "y": 1})
	counts(t, s, trial.Known(s, "r"), map[string]int{"x": 3})
	counts(t, state.State{}, newcomer("web"), nil)
	counts(t, trial.Cluster(zones), newcomer("web"), nil)
	counts(t, trial.Cluster(aWeb("p", "-")), newcomer("web"), nil)
}

// Who has no owner is beside nobody, nor is anybody beside him.
func TestP1101CountWithoutOwner(t *testing.T) {
	s := trial.Cluster(zones, aPod("p", "-", "1", "a"), aPod("q", "-", "1", "a"), aPod("r", "-", "1", "b"), aWeb("s", "a"))
	counts(t, s, newcomer(""), nil)
	for _, name := range []string{"p", "q", "r"} {
		counts(t, s, trial.Known(s, name), nil)
	}
	counts(t, s, newcomer("web"), map[string]int{"x": 1})
}

// Placeholders are not counted; a real pod is, also for a placeholder.
func TestP1101CountOfHolds(t *testing.T) {
	s := trial.Cluster(zones, "pod h web -1 - - - - zone/1 a hold", "pod i web -1 - - - - - b hold", aWeb("p", "a"), aWeb("q", "a"))
	counts(t, s, newcomer("web"), map[string]int{"x": 2})
	counts(t, s, trial.Known(s, "p"), map[string]int{"x": 1})
	counts(t, s, trial.Known(s, "h"), map[string]int{"x": 2})
	counts(t, s, trial.Known(s, "i"), nil) // it has no Key
}

// Of all that a pod has its Name alone tells that it is itself: wherever and however it is told anew.
func TestP1101CountOfItself(t *testing.T) {
	s := trial.Cluster(zones, aWeb("p", "a"), aWeb("q", "a"), aWeb("r", "b"))
	for _, on := range []string{"a", "b", "c", "d", "e", "nowhere", ""} {
		p := trial.Known(s, "p")
		p.Node = on
		counts(t, s, p, map[string]int{"x": 1, "y": 1})
		p.Prio, p.Most, p.Need, p.Labels, p.Hold = 7, 9, res.Vec{{Name: "cpu", N: 1}}, label.Set{{Key: "k", Val: "v"}}, true
		counts(t, s, p, map[string]int{"x": 1, "y": 1})
		p.Name = "pp"
		counts(t, s, p, map[string]int{"x": 2, "y": 1})
	}
	// one who is as it is but for the Name is another one
	p := trial.Known(s, "p")
	p.Name = "o"
	counts(t, s, p, map[string]int{"x": 2, "y": 1})
}

// What others have beside Owner, Hold, Name and Node does not matter.
func TestP1101CountOfOthersWhateverTheyHave(t *testing.T) {
	s := trial.Cluster("node a cpu=9 zone:x - up", "pod p web 0 - - - - - a real", "pod q web 9 cpu=2 app:web zone:y k:v rack/9 a real", "pod r web 0 - - - - zone/9 a real", "pod s db 0 - app:web - - zone/1 a real", "budget all - 9")
	counts(t, s, newcomer("web"), map[string]int{"x": 3})
	p := trial.Known(s, "q")
	p.Key = "zone"
	counts(t, s, p, map[string]int{"x": 2})
}

func TestP1101CountOfWhoStandsInNoDomain(t *testing.T) {
	s := trial.Cluster(zones, aWeb("p", "-"), aWeb("q", "-"), aWeb("r", "d"), aWeb("s", "f"), aWeb("t", "e"))
	counts(t, s, newcomer("web"), map[string]int{"z": 1})
	counts(t, state.Move(s, "t", "none"), newcomer("web"), nil)
	counts(t, state.Move(s, "t", "x"), newcomer("web"), nil)
	counts(t, state.Move(s, "t", "zone"), newcomer("web"), nil)
	counts(t, state.Move(s, "r", "ee"), newcomer("web"), map[string]int{"z": 1})
	counts(t, state.Move(s, "r", "E"), newcomer("web"), map[string]int{"z": 1})
}

func TestP1101CountByKey(t *testing.T) {
	s := trial.Cluster(zones, aWeb("p", "a"), aWeb("q", "c"), aWeb("r", "d"), aWeb("s", "b"))
	for key, want := range map[string]map[string]int{
		"zone": {"x": 2, "y": 1},
		"rack": {"r": 1, "q": 1, "x": 1},
		"":     nil,
		"z":    nil,
		"disk": nil,
		"x":    nil,
	} {
		p := newcomer("web")
		p.Key = key
		counts(t, s, p, want)
	}
}

// skews: on each node that much; there: false is -1, as no Skew is.
func skews(t *testing.T, s state.State, p pod.Pod, want map[string]int) {
	t.Helper()
	for name, n := range want {
		skew, there := spread.Skew(s, p, name)
		if there != (n >= 0) || skew != max(n, 0) {
			t.Errorf("Skew(%q, %q, %q): %d %v; want %d", text.Text(s), pod.Text(p), name, skew, there, n)
		}
	}
}

const no = -1

// Nodes that are none, or have no label p.Key, are no answer, whoever asks.
func TestP1101SkewOfNone(t *testing.T) {
	s := trial.Cluster(zones, aWeb("p", "a"), aWeb("q", "-"), aWeb("r", "d"), aPod("u", "-", "1", "b"), aPod("v", "db", "9", "f"), "pod h web -1 - - - - zone/1 a hold")
	for _, name := range []string{"p", "q", "r", "u", "v", "h"} {
		skews(t, s, trial.Known(s, name), map[string]int{"": no, "g": no, "aa": no, "A": no, "x": no, "zone": no, "p": no, "-": no, "d": no, "f": no})
	}
	p := newcomer("web")
	for _, key := range []string{"disk", "x", "zon", "zonee", "k", "-"} {
		p.Key = key
		skews(t, s, p, map[string]int{"a": no, "b": no, "c": no, "d": no, "e": no, "f": no, "g": no, "": no})
	}
	p.Key = "rack"
	skews(t, s, p, map[string]int{"a": 2, "b": no, "c": 0, "d": 2, "e": no, "f": no, "g": no})
	skews(t, state.State{}, newcomer("web"), map[string]int{"": no, "a": no})
	skews(t, trial.Cluster("node a - - - up"), newcomer("web"), map[string]int{"": no, "a": no})
}

// Who is not spread at all has 0 anywhere, also on a node that is none.
func TestP1101SkewWithoutKey(t *testing.T) {
	anywhere := map[string]int{"a": 0, "b": 0, "c": 0, "d": 0, "e": 0, "f": 0, "g": 0, "": 0, "A": 0}
	s := trial.Cluster(zones, aWeb("p", "a"), aWeb("q", "a"), "pod r web 0 - - - - - a real", "pod s - 0 - - - - - - real", "pod h web -1 - - - - - d hold")
	for _, name := range []string{"r", "s", "h"} {
		skews(t, s, trial.Known(s, name), anywhere)
		skews(t, state.State{}, trial.Known(s, name), anywhere)
	}
	skews(t, s, pod.Pod{}, anywhere)
}

// One domain alone has the least itself, with that 1.
func TestP1101SkewInOneDomainAlone(t *testing.T) {
	s := trial.Cluster("node a - zone:x - up", "node b - - - up", "node c - zone:x - up", aWeb("p", "a"), aWeb("q", "a"), aWeb("r", "c"), aWeb("s", "b"), aWeb("t", "-"))
	alone := map[string]int{"a": 0, "b": no, "c": 0, "d": no}
	for _, name := range []string{"p", "q", "r", "s", "t"} {
		skews(t, s, trial.Known(s, name), alone)
	}
	skews(t, s, newcomer("web"), alone)
	skews(t, s, newcomer("db"), alone)
	skews(t, s, newcomer(""), alone)
}

func TestP1101Skew(t *testing.T) {
	// x has 3, y 1, z none
	s := trial.Cluster(zones, aWeb("p", "a"), aWeb("q", "a"), aWeb("r", "c"), aWeb("s", "b"), aWeb("t", "-"), aWeb("u", "d"), aPod("v", "db", "1", "e"), aPod("w", "-", "1", "a"))
	for _, name := range []string{"t", "u"} {
		skews(t, s, trial.Known(s, name), map[string]int{"a": 4, "b": 2, "c": 4, "e": 0})
	}
	skews(t, s, newcomer("web"), map[string]int{"a": 4, "b": 2, "c": 4, "e": 0})
	// those who stand there are not there twice, and leave where they stood
	for _, name := range []string{"p", "q", "r"} {
		skews(t, s, trial.Known(s, name), map[string]int{"a": 3, "b": 2, "c": 3, "e": 0})
	}
	// one who alone stood in y leaves nobody there
	skews(t, s, trial.Known(s, "s"), map[string]int{"a": 4, "b": 1, "c": 4, "e": 1})
	// nobody beside them
	skews(t, s, trial.Known(s, "v"), map[string]int{"a": 1, "b": 1, "c": 1, "e": 1})
	skews(t, s, trial.Known(s, "w"), map[string]int{"a": 1, "b": 1, "c": 1, "e": 1})
	skews(t, s, newcomer("cache"), map[string]int{"a": 1, "b": 1, "c": 1, "e": 1})
}

// The least is that of all domains, the own one with that 1 among them.
func TestP1101SkewOfTheLeast(t *testing.T) {
	full := trial.Cluster("node a - zone:x - up", "node b - zone:y - up", "node c - zone:z - up", aWeb("p", "a"), aWeb("q", "b"), aWeb("r", "c"))
	skews(t, full, newcomer("web"), map[string]int{"a": 1, "b": 1, "c": 1})
	skews(t, full, trial.Known(full, "p"), map[string]int{"a": 0, "b": 2, "c": 2})
	skews(t, full, trial.Known(full, "r"), map[string]int{"a": 2, "b": 2, "c": 0})
	two := trial.Cluster("node a - zone:x - up", "node b - zone:y - up", aWeb("p", "a"), aWeb("q", "a"), aWeb("r", "a"), aWeb("s", "b"))
	skews(t, two, newcomer("web"), map[string]int{"a": 3, "b": 0})
	skews(t, two, trial.Known(two, "s"), map[string]int{"a": 4, "b": 0})
	skews(t, two, trial.Known(two, "p"), map[string]int{"a": 2, "b": 0})
	// its own is the least, also where another one has as many
	even := trial.Cluster("node a - zone:x - up", "node b - zone:y - up", aWeb("p", "a"))
	skews(t, even, newcomer("web"), map[string]int{"a": 2, "b": 0})
	skews(t, even, trial.Known(even, "p"), map[string]int{"a": 1, "b": 1})
}

// Placeholders are not counted, but the 1 is there also for one of them.
func TestP1101SkewOfHolds(t *testing.T) {
	s := trial.Cluster(zones, aWeb("p", "a"), "pod h web -1 - - - - zone/1 a hold", "pod i web -1 - - - - zone/1 b hold", "pod j web -1 - - - - zone/1 e hold")
	skews(t, s, trial.Known(s, "p"), map[string]int{"a": 1, "b": 1, "c": 1, "e": 1})
	for _, name := range []string{"h", "i", "j"} {
		skews(t, s, trial.Known(s, name), map[string]int{"a": 2, "b": 1, "c": 2, "e": 1})
	}
}

// Its Most and where it stands by now change nothing of how far apart it would be.
func TestP1101SkewWhateverMostIs(t *testing.T) {
	s := trial.Cluster(zones, aWeb("p", "a"), aWeb("q", "c"))
	for _, most := range []int{1, 2, 9, api.MaxPods} {
		for _, on := range []string{"", "a", "b", "c", "d", "nowhere"} {
			p := newcomer("web")
			p.Most, p.Node = most, on
			skews(t, s, p, map[string]int{"a": 3, "b": 1, "c": 3, "d": no, "e": 1, "": no})
		}
	}
}

// eachCluster: four pods, each of them nowhere or on any of the nodes.
func eachCluster() iter.Seq[state.State] {
	return trial.Placings(trial.Cluster(zones, aWeb("p", "-"), aWeb("q", "-"), aPod("r", "web", "2", "-"), aPod("s", "db", "1", "-")))
}

func TestP1101SkewIsWhatCountsTell(t *testing.T) {
	for s := range eachCluster() {
		for _, p := range s.Pods {
			for _, n := range s.Nodes {
				skews(t, s, p, map[string]int{n.Name: toldByCounts(s, p, n)})
			}
		}
	}
}

func toldByCounts(s state.State, p pod.Pod, n node.Node) int {
	own, there := label.Get(n.Labels, p.Key)
	if !there {
		return no
	}
	with := spread.Count(s, p, own) + 1
	least := with
	for _, domain := range spread.Domains(s, p.Key) {
		if domain != own {
			least = min(least, spread.Count(s, p, domain))
		}
	}
	return with - least
}

func standBadly(t *testing.T, s state.State, want ...string) {
	t.Helper()
	if l := spread.Bad(s); !slices.Equal(l, want) {
		t.Errorf("Bad(%q): %q; want %q", text.Text(s), l, want)
	}
}

func TestP1101BadOfNone(t *testing.T) {
	standBadly(t, state.State{})
	standBadly(t, state.State{Nodes: []node.Node{}, Pods: []pod.Pod{}})
	standBadly(t, trial.Cluster(zones))
	// nobody stands too close
	standBadly(t, trial.Cluster(zones, aWeb("p", "a")))
	standBadly(t, trial.Cluster(zones, aWeb("p", "a"), aWeb("q", "b")))
	standBadly(t, trial.Cluster(zones, aWeb("p", "a"), aWeb("q", "b"), aWeb("r", "e")))
	standBadly(t, trial.Cluster(zones, aWeb("p", "a"), aWeb("q", "b"), aWeb("r", "e"), aWeb("s", "c")))
	standBadly(t, trial.Cluster(zones, aWeb("p", "a"), aPod("q", "db", "1", "a"), aPod("r", "-", "1", "a"), aPod("s", "-", "1", "a")))
	// one domain alone
	standBadly(t, trial.Cluster("node a - zone:x - up", aWeb("p", "a"), aWeb("q", "a"), aWeb("r", "a")))
	// nowhere
	standBadly(t, trial.Cluster(zones, aWeb("p", "-"), aWeb("q", "-"), aWeb("r", "-"), aPod("s", "-", "1", "-")))
	standBadly(t, trial.Cluster(aWeb("p", "-")))
	// without a Key, also where the node has no label, and where others of the owner stand
	standBadly(t, trial.Cluster(zones, "pod p web 0 - - - - - a real", "pod q web 0 - - - - - a real", "pod r web 0 - - - - - d real", "pod s - 0 - - - - - f real", "pod h web -1 - - - - - d hold"))
	// placeholders crowd nobody
	standBadly(t, trial.Cluster(zones, aWeb("p", "a"), "pod h web -1 - - - - - a hold", "pod i web -1 - - - - - a hold"))
}

func TestP1101BadAboveMost(t *testing.T) {
	// x has 3, y and z none: each of them has a Skew of 3
	for most, want := range map[string][]string{"1": {"p", "q", "r"}, "2": {"p", "q", "r"}, "3": nil, "4": nil, "128": nil} {
		standBadly(t, trial.Cluster(zones, aPod("p", "web", most, "a"), aPod("q", "web", most, "c"), aPod("r", "web", most, "a")), want...)
	}
	// each by its own Most
	standBadly(t, trial.Cluster(zones, aPod("p", "web", "3", "a"), aPod("q", "web", "2", "c"), aPod("r", "web", "128", "a")), "q")
	standBadly(t, trial.Cluster(zones, aPod("p", "web", "1", "a"), aPod("q", "web", "2", "a")), "p")
	// all of an owner count, also those who are not spread at all
	standBadly(t, trial.Cluster(zones, aWeb("p", "a"), "pod q web 0 - - - - - c real"), "p")
	standBadly(t, trial.Cluster(zones, aWeb("p", "a"), "pod q web 0 - - - - - b real"))
	// one more elsewhere mends it, when no domain is left with fewer
	standBadly(t, trial.Cluster(zones, aWeb("p", "a"), aWeb("q", "a"), aWeb("r", "b")), "p", "q")
	standBadly(t, trial.Cluster(zones, aWeb("p", "a"), aWeb("q", "a"), aWeb("r", "b"), aWeb("s", "e")))
	// a placeholder that is spread stands badly as others do
	standBadly(t, trial.Cluster(zones, aWeb("p", "a"), "pod h web -1 - - - - zone/1 a hold", "pod i web -1 - - - - zone/1 b hold", "pod j web -1 - - - - zone/2 c hold"), "h")
}

// Whose Skew is none: nobody else is needed there, and no Most is enough.
func TestP1101BadWhereNoDomainIs(t *testing.T) {
	standBadly(t, trial.Cluster(zones, aWeb("p", "d")), "p")
	standBadly(t, trial.Cluster(zones, aPod("p", "web", "128", "f")), "p")
	standBadly(t, trial.Cluster(zones, aPod("p", "-", "128", "d"), aPod("q", "-", "128", "e"), "pod h - -1 - - - - zone/9 f hold"), "h", "p")
	standBadly(t, trial.Cluster(zones, "pod p web 0 - - - - disk/9 a real", "pod q web 0 - - - - rack/9 a real", "pod r web 0 - - - - rack/9 b real"), "p", "r")
	standBadly(t, state.Move(trial.Cluster(zones, aPod("p", "web", "128", "a")), "p", "none"), "p")
	standBadly(t, state.Move(trial.Cluster(zones, "pod p web 0 - - - - - a real"), "p", "none"))
}

func TestP1101BadInOrder(t *testing.T) {
	standBadly(t, trial.Cluster(zones, aWeb("z", "a"), aWeb("b", "f"), aWeb("aa", "c"), aPod("a", "db", "9", "d"), aWeb("y", "b"), aWeb("10", "a"), aWeb("9", "-"), aPod("c", "web", "9", "a")), "10", "a", "aa", "b", "z")
}

func TestP1101BadIsWhatSkewTells(t *testing.T) {
	for s := range eachCluster() {
		var want []string
		for _, p := range s.Pods {
			skew, there := spread.Skew(s, p, p.Node)
			if p.Node != "" && (!there || skew > p.Most) {
				want = append(want, p.Name)
			}
		}
		standBadly(t, s, want...)
	}
}

// At the limits: all nodes, each a domain of its own, and all pods.
func TestP1101AtTheLimits(t *testing.T) {
	var s state.State
	var vals []string
	for i := range api.MaxNodes {
		vals = append(vals, "v"+strconv.Itoa(100+i))
		s.Nodes = append(s.Nodes, node.Node{Name: "n" + strconv.Itoa(100+i), Labels: label.Set{{Key: "k", Val: vals[i]}}})
	}
	for i := range api.MaxPods {
		s.Pods = append(s.Pods, pod.Pod{Name: "p" + strconv.Itoa(1000+i), Owner: "web", Key: "k", Most: api.MaxPods - 1, Node: "n100"})
	}
	hasDomains(t, s, "k", vals...)
	p := s.Pods[0]
	if n := spread.Count(s, p, "v100"); n != api.MaxPods-1 {
		t.Errorf("%d", n)
	}
	skews(t, s, p, map[string]int{"n100": api.MaxPods, "n101": 1, "n131": 1})
	if l := spread.Bad(s); len(l) != api.MaxPods {
		t.Errorf("%q", l)
	}
	skews(t, s, pod.Pod{Name: "p", Owner: "web", Key: "k", Most: 1}, map[string]int{"n100": api.MaxPods + 1})
	for i := range s.Pods {
		s.Pods[i].Node = s.Nodes[i%api.MaxNodes].Name
		s.Pods[i].Most = 1
	}
	standBadly(t, s)
}

// roomy: a cluster and a pod, all lists of which have spare room; what is there would be counted.
func roomy() (state.State, pod.Pod) {
	s := trial.Cluster(zones, "node g cpu=9 zone:w a:b,c:d up", aWeb("q", "c"), aWeb("r", "a"), "pod p web 5 cpu=1 app:web zone,-gpu k,* zone/1 g real", aWeb("b", "d"), "budget low app:web 1")
	return trial.Roomy(s, "web", "d"), trial.RoomyPod(trial.Known(s, "p"))
}

func TestP2NothingHandedInIsChanged(t *testing.T) {
	s, p := roomy()
	before, podBefore := roomy()
	for name, call := range map[string]func(){
		"Domains":      func() { spread.Domains(s, "zone") },
		"Count":        func() { spread.Count(s, p, "x") },
		"Skew":         func() { spread.Skew(s, p, "a") },
		"Skew of none": func() { spread.Skew(s, p, "d") },
		"Bad":          func() { spread.Bad(s) },
	} {
		call()
		if !state.Same(trial.WithSpare(s), trial.WithSpare(before)) || !pod.Same(trial.PodWithSpare(p), trial.PodWithSpare(podBefore)) {
			t.Errorf("%s: %q became %q, %q became %q", name, text.Text(before), text.Text(s), pod.Text(podBefore), pod.Text(p))
		}
	}
}

// Neither answer is reached by a change of another one, nor by one of what was handed in.
func TestP2AnswersNewMemory(t *testing.T) {
	s, _ := roomy()
	domains, bad := spread.Domains(s, "zone"), spread.Bad(s)
	trial.Overwrite(spread.Domains(s, "zone"), "mine")
	trial.Overwrite(spread.Bad(s), "mine")
	hasDomains(t, s, "zone", "w", "x", "y", "z")
	standBadly(t, s, "b", "q", "r")
	trial.Overwrite(s.Nodes, node.Node{Name: "mine"})
	trial.Overwrite(s.Pods, pod.Pod{Name: "mine"})
	if !slices.Equal(domains, []string{"w", "x", "y", "z"}) || !slices.Equal(bad, []string{"b", "q", "r"}) {
		t.Errorf("%q, %q", domains, bad)
	}
}

func TestP3SameCallsAnswerTheSame(t *testing.T) {
	s, p := roomy()
	for range 3 {
		hasDomains(t, s, "zone", "w", "x", "y", "z")
		counts(t, s, p, map[string]int{"x": 2})
		skews(t, s, p, map[string]int{"a": 3, "b": 1, "d": no, "g": 1, "h": no})
		standBadly(t, s, "b", "q", "r")
	}
	// what was asked of another cluster is not kept
	standBadly(t, trial.Cluster(zones))
	hasDomains(t, state.State{}, "zone")
	counts(t, state.State{}, p, nil)
	skews(t, state.State{}, p, map[string]int{"a": no})
}

// Whatever plain data is given, no call goes out by a panic, also where Check refuses what others are handed.
func TestP1EveryCallEnds(t *testing.T) {
	wild := pod.Pod{Name: "\xff", Owner: "\xff", Prio: -1 << 63, Labels: make(label.Set, 1000), Key: "\xff", Most: -1 << 63, Node: "\xff", Hold: true}
	tame := pod.Pod{Owner: "\xff", Key: "\xff", Most: 1<<63 - 1, Node: "\xff"}
	nodes := []node.Node{{}, {Name: "\xff"}, {Name: "\xff", Labels: label.Set{{Key: "\xff"}, {Key: "\xff", Val: "\xff"}, {}}}, {Labels: make(label.Set, 1000)}, {Name: "\xff", Labels: label.Set{{Key: "\xff"}}}}
	for _, s := range []state.State{
		{},
		{Nodes: nodes},
		{Pods: []pod.Pod{wild, tame, {}}},
		{Nodes: nodes, Pods: []pod.Pod{wild, tame, tame, {}, {Key: "\xff"}, {Node: "\xff"}}},
		{Nodes: slices.Repeat(nodes, 1000), Pods: slices.Repeat([]pod.Pod{tame}, 300)},
		{Nodes: make([]node.Node, 10000), Pods: make([]pod.Pod, 10000), Budgets: make([]budget.Budget, 10000)},
	} {
		spread.Bad(s)
		for _, name := range []string{"", "\xff", "a", strings.Repeat("a", 1<<20)} {
			spread.Domains(s, name)
			for _, p := range []pod.Pod{{}, wild, tame, {Key: name, Owner: name}} {
				spread.Count(s, p, name)
				spread.Skew(s, p, name)
			}
		}
	}
}
