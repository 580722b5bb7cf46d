package pod_test

import (
	"slices"
	"strconv"
	"strings"
	"testing"

	"ballast/api"
	"ballast/label"
	"ballast/pod"
	"ballast/res"
	"ballast/taint"
	"ballast/trial"
)

const longest = "abcdefghijkl"

// whole: a Pod that has all parts, its lists with more than one item.
func whole() pod.Pod {
	return pod.Pod{
		Name:   "p1",
		Owner:  "web",
		Prio:   100,
		Need:   res.Vec{{Name: "cpu", N: 500}, {Name: "mem", N: 2}},
		Labels: label.Set{{Key: "app", Val: "web"}, {Key: "tier", Val: "front"}},
		Sel:    label.Sel{{Op: label.Is, Key: "zone", Val: "a"}, {Op: label.Lacks, Key: "gpu"}},
		Tols:   []taint.Tol{{Key: "age", Val: "old"}, {Any: true}},
		Key:    "zone",
		Most:   2,
		Node:   "n1",
	}
}

const wholeText = "p1 web 100 cpu=500,mem=2 app:web,tier:front zone:a,-gpu age:old,* zone/2 n1 real"

// changed: another one than whole, by that change alone.
func changed(change func(p *pod.Pod)) pod.Pod {
	p := whole()
	change(&p)
	return p
}

func placeholder() pod.Pod { return pod.Pod{Name: "hold0", Prio: -1, Hold: true} }

func named(names ...string) []pod.Pod {
	var l []pod.Pod
	for _, name := range names {
		l = append(l, pod.Pod{Name: name})
	}
	return l
}

// row: that many Pods with names that rise.
func row(count int) []pod.Pod {
	var l []pod.Pod
	for i := range count {
		l = append(l, changed(func(p *pod.Pod) { p.Name = "p" + strconv.Itoa(1000+i) }))
	}
	return l
}

func needs(count int) res.Vec {
	var v res.Vec
	for i := range count {
		v = append(v, res.Amount{Name: "c" + strconv.Itoa(i), N: int64(i) + 1})
	}
	return v
}

func pairs(count int) label.Set {
	var s label.Set
	for i := range count {
		s = append(s, label.Pair{Key: "k" + strconv.Itoa(i), Val: "v"})
	}
	return s
}

func terms(count int) label.Sel {
	return slices.Repeat(label.Sel{{Op: label.Has, Key: "k"}}, count)
}

func tols(count int) []taint.Tol {
	return slices.Repeat([]taint.Tol{{Key: "k", Val: "v"}}, count)
}

func isZero(p pod.Pod) bool {
	return pod.Same(p, pod.Pod{}) && p.Need == nil && p.Labels == nil && p.Sel == nil && p.Tols == nil
}

func checks(t *testing.T, want api.Errno, l ...pod.Pod) {
	t.Helper()
	for _, p := range l {
		if e := pod.Check(p); e != want {
			t.Errorf("Check(%.300q): %v; want %v", pod.Text(p), e, want)
		}
	}
}

func TestP701Check(t *testing.T) {
	checks(t, api.OK,
		whole(),
		placeholder(),
		pod.Pod{Name: "a"},
		pod.Pod{Name: longest, Owner: longest, Key: longest, Most: 1, Node: longest},
		pod.Pod{Name: "0", Owner: "0", Key: "0", Most: 1, Node: "0"},
		pod.Pod{Name: "a", Need: res.Vec{}, Labels: label.Set{}, Sel: label.Sel{}, Tols: []taint.Tol{}},
		pod.Pod{Name: "a", Need: needs(8), Labels: pairs(8), Sel: terms(8), Tols: tols(8)},
		// one name for all is none too many
		pod.Pod{Name: "a", Owner: "a", Need: res.Vec{{Name: "a", N: 1}}, Labels: label.Set{{Key: "a", Val: "a"}}, Key: "a", Most: 1, Node: "a"},
		// a placeholder may have all that a real one has
		changed(func(p *pod.Pod) { p.Prio, p.Hold = -1, true }))
	checks(t, api.ErrName, pod.Pod{}, pod.Pod{Prio: -1, Hold: true}, pod.Pod{Name: "-"})
}

func TestP701CheckRefusesNames(t *testing.T) {
	for _, bad := range slices.Concat(trial.NotNames(), trial.Spaced(), []string{"-"}) {
		checks(t, api.ErrName,
			pod.Pod{Name: bad},
			changed(func(p *pod.Pod) { p.Name = bad }),
			pod.Pod{Name: "a", Owner: bad},
			changed(func(p *pod.Pod) { p.Owner = bad }),
			pod.Pod{Name: "a", Key: bad, Most: 1},
			changed(func(p *pod.Pod) { p.Key = bad }),
			pod.Pod{Name: "a", Node: bad},
			changed(func(p *pod.Pod) { p.Node = bad }))
	}
}

func TestP701CheckPrio(t *testing.T) {
	for prio, want := range map[int]api.Errno{0: api.OK, 1: api.OK, 999999: api.OK, 1000000: api.OK, 1000001: api.ErrArg, 1<<63 - 1: api.ErrArg, -1: api.ErrArg, -2: api.ErrArg, -1 << 63: api.ErrArg} {
		checks(t, want, pod.Pod{Name: "a", Prio: prio}, changed(func(p *pod.Pod) { p.Prio = prio }))
	}
	for prio, want := range map[int]api.Errno{-1: api.OK, 0: api.ErrArg, 1: api.ErrArg, 1000000: api.ErrArg, 1000001: api.ErrArg, -2: api.ErrArg, -1 << 63: api.ErrArg} {
		checks(t, want, pod.Pod{Name: "a", Prio: prio, Hold: true}, changed(func(p *pod.Pod) { p.Prio, p.Hold = prio, true }))
	}
}

func TestP701CheckMost(t *testing.T) {
	for most, want := range map[int]api.Errno{1: api.OK, 2: api.OK, 127: api.OK, 128: api.OK, 129: api.ErrArg, 1<<63 - 1: api.ErrArg, 0: api.ErrArg, -1: api.ErrArg, -1 << 63: api.ErrArg} {
		checks(t, want, pod.Pod{Name: "a", Key: "k", Most: most}, changed(func(p *pod.Pod) { p.Most = most }))
	}
	for most, want := range map[int]api.Errno{0: api.OK, 1: api.ErrArg, 128: api.ErrArg, 129: api.ErrArg, -1: api.ErrArg} {
		checks(t, want, pod.Pod{Name: "a", Most: most}, changed(func(p *pod.Pod) { p.Key, p.Most = "", most }))
	}
}

// faults, in the order in which Check asks for them.
func faults() [][]trial.Fault[pod.Pod] {
	return [][]trial.Fault[pod.Pod]{
		{trial.Spoilt(api.ErrName, func(p *pod.Pod) { p.Name = "P" })},
		{trial.Spoilt(api.ErrName, func(p *pod.Pod) { p.Owner = "-" })},
		{
			trial.Spoilt(api.ErrArg, func(p *pod.Pod) { p.Prio = -2 }),
			trial.Spoilt(api.ErrArg, func(p *pod.Pod) { p.Prio = 1000001 }),
			trial.Spoilt(api.ErrArg, func(p *pod.Pod) { p.Prio = -1 }),
			trial.Spoilt(api.ErrArg, func(p *pod.Pod) { p.Hold = true }),
		},
		{
			trial.Spoilt(api.ErrLong, func(p *pod.Pod) { p.Need = needs(9) }),
			trial.Spoilt(api.ErrName, func(p *pod.Pod) { p.Need = res.Vec{{Name: "B", N: 1}} }),
			trial.Spoilt(api.ErrArg, func(p *pod.Pod) { p.Need = res.Vec{{Name: "b"}} }),
			trial.Spoilt(api.ErrOrder, func(p *pod.Pod) { p.Need = res.Vec{{Name: "b", N: 1}, {Name: "a", N: 1}} }),
		},
		{
			trial.Spoilt(api.ErrLong, func(p *pod.Pod) { p.Labels = pairs(9) }),
			trial.Spoilt(api.ErrName, func(p *pod.Pod) { p.Labels = label.Set{{Key: "b"}} }),
			trial.Spoilt(api.ErrOrder, func(p *pod.Pod) { p.Labels = label.Set{{Key: "b", Val: "x"}, {Key: "b", Val: "y"}} }),
		},
		{
			trial.Spoilt(api.ErrLong, func(p *pod.Pod) { p.Sel = terms(9) }),
			trial.Spoilt(api.ErrArg, func(p *pod.Pod) { p.Sel = label.Sel{{Key: "b", Val: "x"}} }),
			trial.Spoilt(api.ErrName, func(p *pod.Pod) { p.Sel = label.Sel{{Op: label.Has, Key: "b", Val: "x"}} }),
		},
		{
			trial.Spoilt(api.ErrLong, func(p *pod.Pod) { p.Tols = tols(9) }),
			trial.Spoilt(api.ErrName, func(p *pod.Pod) { p.Tols = []taint.Tol{{Key: "b"}} }),
		},
		{trial.Spoilt(api.ErrName, func(p *pod.Pod) { p.Key = "K" })},
		{
			trial.Spoilt(api.ErrArg, func(p *pod.Pod) { p.Most = 0 }),
			trial.Spoilt(api.ErrArg, func(p *pod.Pod) { p.Most = 129 }),
		},
		{trial.Spoilt(api.ErrName, func(p *pod.Pod) { p.Node = "N" })},
	}
}

func TestP701CheckTellsTheFirstError(t *testing.T) {
	for p, want := range trial.Faulty(whole, faults()) {
		checks(t, want, p)
	}
	// Without a Key, too, Most is asked for ahead of Node.
	checks(t, api.ErrArg, pod.Pod{Name: "a", Most: 1, Node: "N"})
	checks(t, api.ErrName, pod.Pod{Name: "a", Tols: []taint.Tol{{Key: "B", Any: true}}, Most: 1})
}

func TestP701SameOfAllParts(t *testing.T) {
	l := []pod.Pod{
		whole(),
		changed(func(p *pod.Pod) { p.Name = "p2" }),
		changed(func(p *pod.Pod) { p.Name = "" }),
		changed(func(p *pod.Pod) { p.Owner = "wed" }),
		changed(func(p *pod.Pod) { p.Owner = "" }),
		changed(func(p *pod.Pod) { p.Prio = 101 }),
		changed(func(p *pod.Pod) { p.Prio = -100 }),
		changed(func(p *pod.Pod) { p.Need = nil }),
		changed(func(p *pod.Pod) { p.Need = p.Need[:1] }),
		changed(func(p *pod.Pod) { p.Need[0].N++ }),
		changed(func(p *pod.Pod) { p.Need[1].Name = "men" }),
		changed(func(p *pod.Pod) { p.Labels = nil }),
		changed(func(p *pod.Pod) { p.Labels = p.Labels[1:] }),
		changed(func(p *pod.Pod) { p.Labels[0].Key = "apt" }),
		changed(func(p *pod.Pod) { p.Labels[1].Val = "back" }),
		changed(func(p *pod.Pod) { p.Sel = nil }),
		changed(func(p *pod.Pod) { p.Sel = p.Sel[:1] }),
		changed(func(p *pod.Pod) { p.Sel[0].Op = label.Not }),
		changed(func(p *pod.Pod) { p.Sel[0].Val = "b" }),
		changed(func(p *pod.Pod) { p.Sel[1].Key = "cpu" }),
		changed(func(p *pod.Pod) { p.Tols = nil }),
		changed(func(p *pod.Pod) { p.Tols = p.Tols[1:] }),
		changed(func(p *pod.Pod) { p.Tols[0].Key = "" }),
		changed(func(p *pod.Pod) { p.Tols[0].Val = "odd" }),
		changed(func(p *pod.Pod) { p.Tols[1].Any = false }),
		changed(func(p *pod.Pod) { p.Key = "zona" }),
		changed(func(p *pod.Pod) { p.Key = "" }),
		changed(func(p *pod.Pod) { p.Most = 3 }),
		changed(func(p *pod.Pod) { p.Key, p.Most = "", 0 }),
		changed(func(p *pod.Pod) { p.Node = "n2" }),
		changed(func(p *pod.Pod) { p.Node = "" }),
		changed(func(p *pod.Pod) { p.Hold = true }),
		// of any two: also of those that Check refuses, and of those that are told alike
		changed(func(p *pod.Pod) { slices.Reverse(p.Need) }),
		changed(func(p *pod.Pod) { slices.Reverse(p.Labels) }),
		changed(func(p *pod.Pod) { slices.Reverse(p.Sel) }),
		changed(func(p *pod.Pod) { slices.Reverse(p.Tols) }),
		{},
		{Owner: "-"},
		{Node: "-"},
		{Most: 1},
		{Hold: true},
		{Need: res.Vec{{}}},
		{Labels: label.Set{{}}},
		{Sel: label.Sel{{}}},
		{Sel: label.Sel{{Op: label.Has}}},
		{Tols: []taint.Tol{{}}},
		{Tols: []taint.Tol{{Key: "*"}}},
	}
	for i, a := range l {
		for j, b := range l {
			if pod.Same(a, b) != (i == j) {
				t.Errorf("Same of %d %+v and %d %+v: %v", i, a, j, b, i != j)
			}
		}
	}
}

func TestP701SameOfNoneAndNil(t *testing.T) {
	nils := pod.Pod{Name: "a"}
	for _, b := range []pod.Pod{
		{Name: "a", Need: res.Vec{}},
		{Name: "a", Labels: label.Set{}},
		{Name: "a", Sel: label.Sel{}},
		{Name: "a", Tols: []taint.Tol{}},
		{Name: "a", Need: make(res.Vec, 0, 3), Labels: make(label.Set, 0, 3), Sel: make(label.Sel, 0, 3), Tols: make([]taint.Tol, 0, 3)},
	} {
		if !pod.Same(nils, b) || !pod.Same(b, nils) || !pod.Same(b, b) {
			t.Errorf("Same of %#v and %#v: false", nils, b)
		}
	}
	if !pod.Same(whole(), whole()) {
		t.Error("Same of two alike: false")
	}
}

// The greater Prio first, then by Name; the other parts are not asked for, and any two are held against each other.
func TestP701Compare(t *testing.T) {
	at := func(prio int, name string) pod.Pod { return pod.Pod{Prio: prio, Name: name} }
	inOrder := []pod.Pod{
		at(1<<63-1, "a"), at(1000001, "a"), at(1000000, "z"), at(100, "b"), at(100, "ba"), at(100, "c"),
		at(1, "A"), at(1, "a"), at(1, "z"), at(0, ""), at(0, "\x00"), at(0, "10"), at(0, "9"), at(0, "a"), at(0, "é"), at(0, "\xff"),
		at(-1, "a"), at(-1, "b"), at(-2, ""), at(-1<<63, "a"), at(-1<<63, "b"),
	}
	for i, a := range inOrder {
		for j, b := range inOrder {
			b.Owner, b.Need, b.Key, b.Node, b.Hold = "o", needs(1), "k", "n", true
			want := 0
			switch {
			case i < j:
				want = -1
			case i > j:
				want = 1
			}
			if n := pod.Compare(a, b); n != want {
				t.Errorf("Compare(%d %q, %d %q): %d; want %d", a.Prio, a.Name, b.Prio, b.Name, n, want)
			}
			if n := pod.Compare(b, a); n != -want {
				t.Errorf("Compare(%d %q, %d %q): %d; want %d", b.Prio, b.Name, a.Prio, a.Name, n, -want)
			}
		}
	}
}

// ordinary: Pods by their texts.
func ordinary() map[string]pod.Pod {
	return map[string]pod.Pod{
		wholeText: whole(),
		strings.Replace(wholeText, "100", "-1", 1)[:len(wholeText)-5] + "hold": changed(func(p *pod.Pod) { p.Prio, p.Hold = -1, true }),
		"hold0 - -1 - - - - - - hold":                                          placeholder(),
		"a - 0 - - - - - - real":                                               {Name: "a"},
		"a o 0 - - - - - - real":                                               {Name: "a", Owner: "o"},
		"a - 1 - - - - - - real":                                               {Name: "a", Prio: 1},
		"a - 1000000 - - - - - - real":                                         {Name: "a", Prio: 1000000},
		"a - 0 b=1 - - - - - real":                                             {Name: "a", Need: res.Vec{{Name: "b", N: 1}}},
		"a - 0 - b:c - - - - real":                                             {Name: "a", Labels: label.Set{{Key: "b", Val: "c"}}},
		"a - 0 - - b:c - - - real":                                             {Name: "a", Sel: label.Sel{{Op: label.Is, Key: "b", Val: "c"}}},
		"a - 0 - - b!c,b,-b - - - real":                                        {Name: "a", Sel: label.Sel{{Op: label.Not, Key: "b", Val: "c"}, {Op: label.Has, Key: "b"}, {Op: label.Lacks, Key: "b"}}},
		"a - 0 - - - b:c - - real":                                             {Name: "a", Tols: []taint.Tol{{Key: "b", Val: "c"}}},
		"a - 0 - - - *,*:c,b - - real":                                         {Name: "a", Tols: []taint.Tol{{Any: true}, {Val: "c"}, {Key: "b", Any: true}}},
		"a - 0 - - - - k/1 - real":                                             {Name: "a", Key: "k", Most: 1},
		"a - 0 - - - - k/128 - real":                                           {Name: "a", Key: "k", Most: 128},
		"a - 0 - - - - 7/7 - real":                                             {Name: "a", Key: "7", Most: 7},
		"a - 0 - - - - - n real":                                               {Name: "a", Node: "n"},
		"real hold 0 - - - - real/1 0 real":                                    {Name: "real", Owner: "hold", Key: "real", Most: 1, Node: "0"},
		"0 1 2 - - - - 3/4 5 real":                                             {Name: "0", Owner: "1", Prio: 2, Key: "3", Most: 4, Node: "5"},
		longest + " " + longest + " 0 - - - - " + longest + "/1 " + longest + " real": {Name: longest, Owner: longest, Key: longest, Most: 1, Node: longest},
		"a - 0 c0=1,c1=2,c2=3,c3=4,c4=5,c5=6,c6=7,c7=8 k0:v,k1:v,k2:v,k3:v,k4:v,k5:v,k6:v,k7:v k,k,k,k,k,k,k,k k:v,k:v,k:v,k:v,k:v,k:v,k:v,k:v - - real": {
			Name: "a", Need: needs(8), Labels: pairs(8), Sel: terms(8), Tols: tols(8)},
	}
}

func TestP701Text(t *testing.T) {
	for want, p := range ordinary() {
		if text := pod.Text(p); text != want {
			t.Errorf("Text(%+v): %q; want %q", p, text, want)
		}
	}
	if text := pod.Text(pod.Pod{Name: "a", Need: res.Vec{}, Labels: label.Set{}, Sel: label.Sel{}, Tols: []taint.Tol{}}); text != "a - 0 - - - - - - real" {
		t.Errorf("Text of none: %q", text)
	}
}

func TestP701ParseReadsWhatTextTells(t *testing.T) {
	for text, want := range ordinary() {
		p, e := pod.Parse(text)
		if e != api.OK || !pod.Same(p, want) || pod.Text(p) != text || pod.Check(p) != api.OK {
			t.Errorf("Parse(%q): %+v %v", text, p, e)
		}
	}
}

// refused: each text is refused with that error, and a zero Pod is beside it.
func refused(t *testing.T, want api.Errno, texts ...string) {
	t.Helper()
	for _, text := range texts {
		if p, e := pod.Parse(text); e != want || !isZero(p) {
			t.Errorf("Parse(%.200q): %+v %v; want %v", text, p, e, want)
		}
	}
}

// with: the text of a Pod that is sound, one of its words another.
func with(at int, word string) string { return trial.With(wholeText, at, word) }

func TestP701ParseRefusesForms(t *testing.T) {
	refused(t, api.ErrForm,
		// fewer than ten words, and more
		"", "a", "real", "a real", "a - 0 - - - - - real", "a - 0 - - - - - -", "- 0 - - - - - - real", "a - - - - - - - real", "a - 0 - - - - - - - real", "a - 0 - - - - - - real real", "a - 0 - - - - - - real hold", "a - 0 0 - - - - - - real", strings.Repeat("a ", 1000), strings.Repeat(" ", 1<<20),
		wholeText+" "+wholeText, wholeText+" real", "p0 "+wholeText,
		// two blanks together, at the front, at the end
		"a  - 0 - - - - - - real", "a -  0 - - - - - - real", "a - 0  - - - - - - real", "a - 0 - - - - - -  real", " a - 0 - - - - - - real", "  a - 0 - - - - - - real", "a - 0 - - - - - - real ", "a - 0 - - - - - - ", "a - 0 - - - - - -  ", " ", strings.Repeat(" ", 9), strings.Repeat(" ", 10),
		// another blank between
		"a\t-\t0\t-\t-\t-\t-\t-\t-\treal", "a\t- 0 - - - - - - real", "a - 0 - - - - - -\treal", "a\n-\n0\n-\n-\n-\n-\n-\n-\nreal", "a - 0 - - - - - - real\n", "a,-,0,-,-,-,-,-,-,real", "a\u00a0-\u00a00\u00a0-\u00a0-\u00a0-\u00a0-\u00a0-\u00a0-\u00a0real")
	// an empty word, as two blanks together leave it, is none of any place but the Name's
	for at := 1; at < 10; at++ {
		refused(t, api.ErrForm, with(at, ""))
	}
	for _, kind := range []string{"-", "Real", "REAL", "rea", "reall", "xreal", "Hold", "hol", "holds", "hold!", "real,hold", "true", "up", "a", "0", "\x00real", "real\x00"} {
		refused(t, api.ErrForm, "a - 0 - - - - - - "+kind, "a - -1 - - - - - - "+kind, with(9, kind))
	}
}

func TestP701ParsePrio(t *testing.T) {
	for _, prio := range []string{"-", "--1", "-2", "-0", "-01", "- 1", "+1", "00", "01", "007", "-1000000", "1_000", "0x1", "1e3", "1.0", "a", "１", "1\t", "1,", "2147483648", "4294967296", "4294967295", "9223372036854775808", strings.Repeat("9", 1000), "0" + strings.Repeat("0", 1000)} {
		refused(t, api.ErrForm, "a - "+prio+" - - - - - - real", "a - "+prio+" - - - - - - hold", with(2, prio))
	}
	for _, prio := range []string{"1000001", "2147483646", "2147483647"} {
		refused(t, api.ErrArg, "a - "+prio+" - - - - - - real", "a - "+prio+" - - - - - - hold", with(2, prio))
	}
	refused(t, api.ErrArg, with(2, "-1"), "a - -1 - - - - - - real", "a - 0 - - - - - - hold", "a - 1000000 - - - - - - hold")
}

func TestP701ParseSpread(t *testing.T) {
	for _, spread := range []string{"k", "1", "/", "/1", "//", "k/", "k/-", "k/x", "k/1x", "k/-1", "k/+1", "k/00", "k/01", "k/1/2", "k//1", "k/1/", "/k/1", "/1/2", "k:1", "k=1", "--", "k/2147483648", "k/" + strings.Repeat("9", 1000), "k\\1"} {
		refused(t, api.ErrForm, "a - 0 - - - - "+spread+" - real", with(7, spread))
	}
	for _, spread := range []string{"k/0", "k/129", "k/2147483647"} {
		refused(t, api.ErrArg, "a - 0 - - - - "+spread+" - real", with(7, spread))
	}
	for _, spread := range []string{"K/1", "-/1", "*/1", "K/0", "K/129", "k,k/1", "k:v/1", longest + "m/1"} {
		refused(t, api.ErrName, "a - 0 - - - - "+spread+" - real", with(7, spread))
	}
}

func TestP701ParseRefusesNames(t *testing.T) {
	for _, bad := range trial.NotNames() {
		refused(t, api.ErrName, with(0, bad), with(1, bad), with(8, bad))
	}
	refused(t, api.ErrName, with(0, "-"), with(0, ""), "- - 0 - - - - - - real", " - 0 - - - - - - real")
}

func TestP701ParseRefusesLists(t *testing.T) {
	for at, lists := range map[int]map[api.Errno][]string{
		3: {
			api.ErrForm:  {"b", "=", "b=", "b=01", "b=1,", "-,b=1", "--", "b:c"},
			api.ErrOver:  {"b=9223372036854775808"},
			api.ErrLong:  {res.Text(needs(9))},
			api.ErrName:  {"B=1", "=1"},
			api.ErrArg:   {"b=0"},
			api.ErrOrder: {"c=1,b=1", "b=1,b=1"},
		},
		4: {
			api.ErrForm:  {"b", "b:c,", "b:c:d", "b=1", "-,b:c", "-b", "--"},
			api.ErrLong:  {label.Text(pairs(9))},
			api.ErrName:  {"b:C", ":", "b!c:d"},
			api.ErrOrder: {"c:x,b:x", "b:x,b:y"},
		},
		5: {
			api.ErrForm: {"b,", "b:c:d", "b!c:d", "-b:c", "-b!c"},
			api.ErrLong: {label.SelText(terms(9))},
			api.ErrName: {"B", "b:", "b!C", "--", "-,b", "b=1"},
		},
		6: {
			api.ErrForm: {"b,", "b:c:d", ":b", ","},
			api.ErrLong: {taint.TolText(tols(9))},
			api.ErrName: {"B", "b:", "b:*", "b!", "--", "-,b"},
		},
	} {
		for want, words := range lists {
			for _, word := range words {
				refused(t, want, with(at, word))
			}
		}
	}
}

// wrongWords, in the order in which Parse asks for them: forms, then words, then what Check asks for; those of one group are told alike ahead of the groups behind.
func wrongWords() [][]trial.Word {
	wrong := trial.Wrong
	return [][]trial.Word{
		{wrong(2, "01", api.ErrForm), wrong(2, "-2", api.ErrForm), wrong(7, "k", api.ErrForm), wrong(7, "/1", api.ErrForm), wrong(7, "k/1/1", api.ErrForm), wrong(9, "Real", api.ErrForm), wrong(9, "", api.ErrForm), wrong(0, "a b", api.ErrForm), wrong(8, "n ", api.ErrForm)},
		{wrong(1, "", api.ErrForm)},
		{wrong(3, "b", api.ErrForm), wrong(3, "b=9223372036854775808", api.ErrOver), wrong(3, "b=0", api.ErrArg), wrong(3, "b=1,b=1", api.ErrOrder), wrong(3, "B=1", api.ErrName)},
		{wrong(4, "b", api.ErrForm), wrong(4, "b:x,b:x", api.ErrOrder), wrong(4, "B:x", api.ErrName), wrong(4, label.Text(pairs(9)), api.ErrLong)},
		{wrong(5, "", api.ErrForm), wrong(5, "B", api.ErrName), wrong(5, label.SelText(terms(9)), api.ErrLong)},
		{wrong(6, ":x", api.ErrForm), wrong(6, "B", api.ErrName), wrong(6, taint.TolText(tols(9)), api.ErrLong)},
		{wrong(8, "", api.ErrForm)},
		{wrong(0, "P", api.ErrName), wrong(0, "", api.ErrName)},
		{wrong(1, "W", api.ErrName)},
		{wrong(2, "1000001", api.ErrArg), wrong(2, "-1", api.ErrArg), wrong(9, "hold", api.ErrArg)},
		{wrong(7, "K/1", api.ErrName), wrong(7, "K/0", api.ErrName)},
		{wrong(7, "k/0", api.ErrArg), wrong(7, "k/129", api.ErrArg)},
		{wrong(8, "N", api.ErrName)},
	}
}

func TestP701ParseTellsTheFirstError(t *testing.T) {
	for text, want := range trial.WrongTexts(wholeText, wrongWords()) {
		refused(t, want, text)
	}
}

// Texts of the signs that matter, of up to four around the words ahead and behind: each is read as it is written, or refused, with no panic.
func TestP701WhatIsReadIsToldJustSoWritten(t *testing.T) {
	for text := range trial.Texts("aB01=:!*,/- ", 4) {
		checkBack(t, text, "", " - 0 - - - - - - real")
		checkBack(t, text, "a ", " 0 - - - - - - real")
		checkBack(t, text, "a - ", " - - - - - - real")
		checkBack(t, text, "a - ", " - - - - - - hold")
		checkBack(t, text, "a - 0 ", " - - - - - real")
		checkBack(t, text, "a - 0 - ", " - - - - real")
		checkBack(t, text, "a - 0 - - ", " - - - real")
		checkBack(t, text, "a - 0 - - - ", " - - real")
		checkBack(t, text, "a - 0 - - - - ", " - real")
		checkBack(t, text, "a - 0 - - - - - ", " real")
	}
}

func checkBack(t *testing.T, text, ahead, behind string) {
	t.Helper()
	text = ahead + text + behind
	p, e := pod.Parse(text)
	if e == api.OK && (pod.Text(p) != text || pod.Check(p) != api.OK) || e != api.OK && !isZero(p) {
		t.Errorf("Parse(%q): %+v %v", text, p, e)
	}
	if strings.Count(text, " ") != 9 && e != api.ErrForm {
		t.Errorf("Parse(%q): %v", text, e)
	}
}

func checksAll(t *testing.T, want api.Errno, l ...[]pod.Pod) {
	t.Helper()
	for _, x := range l {
		if e := pod.CheckAll(x); e != want {
			t.Errorf("CheckAll(%.300v): %v; want %v", x, e, want)
		}
	}
}

func TestP701CheckAll(t *testing.T) {
	checksAll(t, api.OK, nil, []pod.Pod{}, named("a"), named("a", "b"), named("0", "9", "a", "aa", "ab", "b"), []pod.Pod{placeholder(), whole()}, row(127), row(128))
	checksAll(t, api.ErrLong, row(129), row(200), make([]pod.Pod, 129))
	checksAll(t, api.ErrOrder, named("b", "a"), named("a", "a"), named("aa", "a"), named("a", "9"), named("a", "c", "b"), named("a", "b", "a"), append(row(127), row(1)...), []pod.Pod{whole(), placeholder()})
	// one Name twice, of Pods that differ; a greater Prio is not ahead
	checksAll(t, api.ErrOrder, []pod.Pod{whole(), changed(func(p *pod.Pod) { p.Owner, p.Node = "", "" })})
	checksAll(t, api.OK, []pod.Pod{{Name: "a", Prio: 1}, {Name: "b", Prio: 2}, {Name: "c"}})
	for _, f := range slices.Concat(faults()...) {
		checksAll(t, f.Want, []pod.Pod{changed(f.Spoil)}, append(named("a"), changed(f.Spoil)), append([]pod.Pod{changed(f.Spoil)}, named("z", "a")...))
	}
}

// Too many are told ahead of all, then the first Pod's errors, of one Pod Check's ahead of its order.
func TestP701CheckAllTellsTheFirstError(t *testing.T) {
	arg := pod.Pod{Name: "a", Prio: -1}
	checksAll(t, api.ErrLong, append(named("b", "A"), row(127)...), append(row(128), arg), append(row(128), row(1)...))
	checksAll(t, api.ErrName, named("b", "A", "a"), named("b", "A"), append(named("A"), arg), make([]pod.Pod, 128))
	checksAll(t, api.ErrArg, append(named("b"), arg), []pod.Pod{arg, arg}, append([]pod.Pod{arg}, named("A")...))
	checksAll(t, api.ErrOrder, named("b", "a", "A"), append(named("b", "a"), arg), append(named("a", "a"), arg))
}

func TestP701Find(t *testing.T) {
	l := row(128)
	for i := range l {
		l[i].Prio = i
	}
	for _, p := range l {
		if found, ok := pod.Find(l, p.Name); !ok || !pod.Same(found, p) {
			t.Errorf("Find %s: %+v %v", p.Name, found, ok)
		}
	}
	for _, name := range []string{"", "p", "p1", "p10000", "p1128", "P1000", "p1000 ", "web", "n1", pod.Text(l[0])} {
		if found, ok := pod.Find(l, name); ok || !isZero(found) {
			t.Errorf("Find %q: %+v %v", name, found, ok)
		}
	}
	for _, none := range [][]pod.Pod{nil, {}} {
		if found, ok := pod.Find(none, ""); ok || !isZero(found) {
			t.Errorf("Find of none: %+v %v", found, ok)
		}
	}
}

// Of several of one Name the first one is found (P9), and the order of names is not asked for.
func TestP701FindTakesTheFirst(t *testing.T) {
	l := append(named("z", "a"), placeholder(), whole(), pod.Pod{Name: "p1"}, pod.Pod{Name: "a", Prio: 7})
	for name, at := range map[string]int{"z": 0, "a": 1, "hold0": 2, "p1": 3} {
		if found, ok := pod.Find(l, name); !ok || !pod.Same(found, l[at]) {
			t.Errorf("Find %s: %+v %v", name, found, ok)
		}
	}
}

// roomy: a Pod each list of which has spare room; and all of that memory.
func roomy() (pod.Pod, pod.Pod) {
	all := whole()
	all.Need = append(all.Need, needs(2)...)
	all.Labels = append(all.Labels, pairs(2)...)
	all.Sel = append(all.Sel, terms(2)...)
	all.Tols = append(all.Tols, tols(2)...)
	p := all
	p.Need, p.Labels, p.Sel, p.Tols = p.Need[:2], p.Labels[:2], p.Sel[:2], p.Tols[:2]
	return p, all
}

func overwriteAll(p pod.Pod) {
	trial.Overwrite(p.Need, res.Amount{Name: "mine", N: 77})
	trial.Overwrite(p.Labels, label.Pair{Key: "mine", Val: "mine"})
	trial.Overwrite(p.Sel, label.Term{Op: label.Has, Key: "mine"})
	trial.Overwrite(p.Tols, taint.Tol{Key: "mine", Val: "mine"})
}

func TestP2FindAnswersNewMemory(t *testing.T) {
	p, all := roomy()
	_, before := roomy()
	l := append(named("a"), p)
	found, _ := pod.Find(l, "p1")
	overwriteAll(found)
	again, _ := pod.Find(l, "p1")
	if !pod.Same(all, before) || !pod.Same(l[1], whole()) || !pod.Same(again, whole()) {
		t.Errorf("Find answered what it was handed: %+v", all)
	}
}

func TestP2ParseAnswersNewMemory(t *testing.T) {
	for text, want := range ordinary() {
		first, _ := pod.Parse(text)
		overwriteAll(first)
		if again, _ := pod.Parse(text); !pod.Same(again, want) {
			t.Errorf("Parse(%q) answered one list twice: %+v", text, again)
		}
	}
}

func TestP2NothingHandedInIsChanged(t *testing.T) {
	p, all := roomy()
	_, before := roomy()
	wholeRow := append(named("b", "a"), p, pod.Pod{Name: "spare"})
	rowBefore := slices.Clone(wholeRow)
	l := wholeRow[:3]
	pod.Check(p)
	pod.Same(p, l[0])
	pod.Compare(p, l[0])
	pod.Text(p)
	pod.Find(l, "p1")
	pod.CheckAll(l)
	pod.CheckAll(l[1:])
	if !pod.Same(all, before) || !slices.EqualFunc(wholeRow, rowBefore, pod.Same) {
		t.Errorf("%+v became %+v, %+v became %+v", before, all, rowBefore, wholeRow)
	}
}

func TestP3SameCallsAnswerTheSame(t *testing.T) {
	for range 3 {
		refused(t, api.ErrForm, "a - 0 - - - - k - real")
		refused(t, api.ErrName, "A - 0 - - - - - - real")
		if p, e := pod.Parse(wholeText); e != api.OK || !pod.Same(p, whole()) {
			t.Errorf("Parse: %+v %v", p, e)
		}
		checks(t, api.OK, whole())
		checks(t, api.ErrName, pod.Pod{})
		checksAll(t, api.ErrOrder, named("b", "a"))
		checksAll(t, api.OK, named("a", "b"))
	}
}

// Whatever plain data is given, no call goes out by a panic, also where Check refuses what others are handed.
func TestP1EveryCallEnds(t *testing.T) {
	l := []pod.Pod{
		{},
		{Name: "\xff \x00", Owner: " ", Prio: -1 << 63, Need: res.Vec{{Name: "\xff", N: -1 << 63}, {}}, Labels: label.Set{{Key: " ", Val: ","}, {}}, Sel: label.Sel{{Op: -7, Key: "!"}, {}}, Tols: []taint.Tol{{Key: "*", Val: ":"}, {}}, Key: "/", Most: -1 << 63, Node: "\x00"},
		{Name: strings.Repeat(" ", 1000), Prio: 1<<63 - 1, Need: make(res.Vec, 1000), Labels: make(label.Set, 1000), Sel: make(label.Sel, 1000), Tols: make([]taint.Tol, 1000), Most: 1<<63 - 1, Hold: true},
		whole(),
	}
	for _, p := range l {
		pod.Check(p)
		pod.Parse(pod.Text(p))
		pod.Find(l, p.Name)
		for _, o := range l {
			pod.Same(p, o)
			pod.Compare(p, o)
		}
	}
	pod.CheckAll(l)
	pod.CheckAll(l[3:])
	pod.CheckAll(make([]pod.Pod, 100000))
	for _, text := range []string{"\xff", strings.Repeat(" ", 9), strings.Repeat("\x00 ", 9) + "real", strings.Repeat(", ", 9) + "hold", strings.Repeat("a", 1<<20) + " - 0 - - - - - - real", strings.Repeat("/ ", 9) + "real", "a - 0 - - - - " + strings.Repeat("/", 1<<20) + " - real"} {
		pod.Parse(text)
	}
}
