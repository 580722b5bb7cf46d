package node_test

import (
	"slices"
	"strconv"
	"strings"
	"testing"

	"ballast/api"
	"ballast/label"
	"ballast/node"
	"ballast/res"
	"ballast/taint"
	"ballast/trial"
)

const longest = "abcdefghijkl"

func amount(name string, n int64) res.Amount { return res.Amount{Name: name, N: n} }

func pair(key, val string) label.Pair { return label.Pair{Key: key, Val: val} }

func hard(key, val string) taint.Taint { return taint.Taint{Key: key, Val: val, Hard: true} }

func soft(key, val string) taint.Taint { return taint.Taint{Key: key, Val: val} }

// whole: a Node that has all parts, each with more than one item.
func whole() node.Node {
	return node.Node{
		Name:   "n1",
		Cap:    res.Vec{amount("cpu", 4000), amount("mem", 16)},
		Labels: label.Set{pair("disk", "fast"), pair("zone", "a")},
		Taints: []taint.Taint{hard("gpu", "yes"), soft("age", "old")},
		Cordon: true,
	}
}

// changed: another one than whole, by that change alone.
func changed(change func(n *node.Node)) node.Node {
	n := whole()
	change(&n)
	return n
}

func named(names ...string) []node.Node {
	var l []node.Node
	for _, name := range names {
		l = append(l, node.Node{Name: name})
	}
	return l
}

// row: that many Nodes with names that rise.
func row(count int) []node.Node {
	var l []node.Node
	for i := range count {
		n := whole()
		n.Name = "n" + strconv.Itoa(1000+i)
		l = append(l, n)
	}
	return l
}

func amounts(count int) res.Vec {
	var v res.Vec
	for i := range count {
		v = append(v, amount("c"+string(rune('a'+i)), int64(i)+1))
	}
	return v
}

func pairs(count int) label.Set {
	var s label.Set
	for i := range count {
		s = append(s, pair("k"+string(rune('a'+i)), "v"))
	}
	return s
}

func taints(count int) []taint.Taint {
	var l []taint.Taint
	for i := range count {
		l = append(l, taint.Taint{Key: "k", Val: "v" + string(rune('a'+i)), Hard: i%2 == 0})
	}
	return l
}

func same(a, b []node.Node) bool { return slices.EqualFunc(a, b, node.Same) }

func isZero(n node.Node) bool {
	return n.Name == "" && n.Cap == nil && n.Labels == nil && n.Taints == nil && !n.Cordon
}

func checks(t *testing.T, want api.Errno, l ...node.Node) {
	t.Helper()
	for _, n := range l {
		if e := node.Check(n); e != want {
			t.Errorf("Check(%.200q): %v; want %v", node.Text(n), e, want)
		}
	}
}

func TestP601Check(t *testing.T) {
	checks(t, api.OK,
		whole(),
		node.Node{Name: "a"},
		node.Node{Name: longest, Cordon: true},
		node.Node{Name: "0", Cap: res.Vec{}, Labels: label.Set{}, Taints: []taint.Taint{}},
		node.Node{Name: "a", Cap: amounts(8), Labels: pairs(8), Taints: taints(8)},
		// one name for all is none too many
		node.Node{Name: "a", Cap: res.Vec{amount("a", 1)}, Labels: label.Set{pair("a", "a")}, Taints: []taint.Taint{soft("a", "a")}})
	for _, bad := range slices.Concat(trial.NotNames(), trial.Spaced(), []string{"", "-"}) {
		checks(t, api.ErrName, node.Node{Name: bad}, node.Node{Name: bad, Cordon: true}, changed(func(n *node.Node) { n.Name = bad }))
	}
}

// caps, labels and taintLists: of each error that its package tells a list that has it.
func caps() map[api.Errno]res.Vec {
	return map[api.Errno]res.Vec{
		api.OK:       {amount("b", 1)},
		api.ErrLong:  amounts(9),
		api.ErrName:  {amount("a", 1), amount("B", 1)},
		api.ErrArg:   {amount("b", 0)},
		api.ErrOrder: {amount("b", 1), amount("a", 1)},
	}
}

func labels() map[api.Errno]label.Set {
	return map[api.Errno]label.Set{
		api.OK:       {pair("b", "x")},
		api.ErrLong:  pairs(9),
		api.ErrName:  {pair("b", "")},
		api.ErrOrder: {pair("b", "x"), pair("b", "y")},
	}
}

func taintLists() map[api.Errno][]taint.Taint {
	return map[api.Errno][]taint.Taint{
		api.OK:       {soft("b", "x")},
		api.ErrLong:  taints(9),
		api.ErrName:  {hard("", "x")},
		api.ErrTwice: {soft("b", "x"), hard("b", "x")},
	}
}

// firstOf: the first error among them.
func firstOf(l ...api.Errno) api.Errno {
	for _, e := range l {
		if e != api.OK {
			return e
		}
	}
	return api.OK
}

// Name's error is told ahead of res's, res's ahead of label's, label's ahead of taint's, whatever they are.
func TestP601CheckTellsTheFirstError(t *testing.T) {
	for ofName, name := range map[api.Errno]string{api.OK: "n", api.ErrName: "N"} {
		for ofCap, v := range caps() {
			for ofLabels, s := range labels() {
				for ofTaints, l := range taintLists() {
					n := node.Node{Name: name, Cap: v, Labels: s, Taints: l}
					checks(t, firstOf(ofName, ofCap, ofLabels, ofTaints), n)
					n.Cordon = true
					checks(t, firstOf(ofName, ofCap, ofLabels, ofTaints), n)
				}
			}
		}
	}
}

func TestP601SameOfAllParts(t *testing.T) {
	l := []node.Node{
		whole(),
		changed(func(n *node.Node) { n.Name = "n2" }),
		changed(func(n *node.Node) { n.Name = "" }),
		changed(func(n *node.Node) { n.Cap = nil }),
		changed(func(n *node.Node) { n.Cap = n.Cap[:1] }),
		changed(func(n *node.Node) { n.Cap[0].N++ }),
		changed(func(n *node.Node) { n.Cap[1].Name = "men" }),
		changed(func(n *node.Node) { n.Labels = nil }),
		changed(func(n *node.Node) { n.Labels = n.Labels[:1] }),
		changed(func(n *node.Node) { n.Labels[0].Key = "desk" }),
		changed(func(n *node.Node) { n.Labels[1].Val = "b" }),
		changed(func(n *node.Node) { n.Taints = nil }),
		changed(func(n *node.Node) { n.Taints = n.Taints[:1] }),
		changed(func(n *node.Node) { n.Taints[0].Key = "cpu" }),
		changed(func(n *node.Node) { n.Taints[0].Val = "no" }),
		changed(func(n *node.Node) { n.Taints[1].Hard = true }),
		changed(func(n *node.Node) { n.Cordon = false }),
		// of any two: also of those that Check refuses, and of those that are told alike
		changed(func(n *node.Node) { slices.Reverse(n.Cap) }),
		changed(func(n *node.Node) { slices.Reverse(n.Labels) }),
		changed(func(n *node.Node) { slices.Reverse(n.Taints) }),
		changed(func(n *node.Node) { n.Cap = amounts(9) }),
		{},
		{Cordon: true},
		{Cap: res.Vec{{}}},
		{Labels: label.Set{{}}},
		{Labels: label.Set{pair(":", "")}},
		{Labels: label.Set{pair("", ":")}},
		{Taints: []taint.Taint{{}}},
		{Taints: []taint.Taint{soft("", "!")}},
		{Taints: []taint.Taint{hard("", "")}},
	}
	for i, a := range l {
		for j, b := range l {
			if node.Same(a, b) != (i == j) {
				t.Errorf("Same of %d %+v and %d %+v: %v", i, a, j, b, i != j)
			}
		}
	}
}

func TestP601SameOfNoneAndNil(t *testing.T) {
	nils := node.Node{Name: "a"}
	for _, b := range []node.Node{
		{Name: "a", Cap: res.Vec{}},
		{Name: "a", Labels: label.Set{}},
		{Name: "a", Taints: []taint.Taint{}},
		{Name: "a", Cap: make(res.Vec, 0, 3), Labels: make(label.Set, 0, 3), Taints: make([]taint.Taint, 0, 3)},
	} {
		if !node.Same(nils, b) || !node.Same(b, nils) || !node.Same(b, b) {
			t.Errorf("Same of %#v and %#v: false", nils, b)
		}
	}
	if !node.Same(whole(), whole()) || !node.Same(node.Node{}, node.Node{}) {
		t.Error("Same of two alike: false")
	}
}

// ordinary: Nodes by their texts.
func ordinary() map[string]node.Node {
	return map[string]node.Node{
		"n1 cpu=4000,mem=16 disk:fast,zone:a gpu:yes!,age:old cordon": whole(),
		"n1 cpu=4000,mem=16 disk:fast,zone:a gpu:yes!,age:old up":     changed(func(n *node.Node) { n.Cordon = false }),
		"a - - - up":                     {Name: "a"},
		"a - - - cordon":                 {Name: "a", Cordon: true},
		"a b=1 - - up":                   {Name: "a", Cap: res.Vec{amount("b", 1)}},
		"a - b:c - up":                   {Name: "a", Labels: label.Set{pair("b", "c")}},
		"a - - b:c up":                   {Name: "a", Taints: []taint.Taint{soft("b", "c")}},
		"a - - b:c! up":                  {Name: "a", Taints: []taint.Taint{hard("b", "c")}},
		"up - - - up":                    {Name: "up"},
		"cordon - - - up":                {Name: "cordon"},
		longest + " - - - cordon":        {Name: longest, Cordon: true},
		"0 0=9223372036854775807 - - up": {Name: "0", Cap: res.Vec{amount("0", 1<<63-1)}},
		"a ca=1,cb=2,cc=3,cd=4,ce=5,cf=6,cg=7,ch=8 ka:v,kb:v,kc:v,kd:v,ke:v,kf:v,kg:v,kh:v k:va!,k:vb,k:vc!,k:vd,k:ve!,k:vf,k:vg!,k:vh up": {
			Name: "a", Cap: amounts(8), Labels: pairs(8), Taints: taints(8)},
	}
}

func TestP601Text(t *testing.T) {
	for want, n := range ordinary() {
		if text := node.Text(n); text != want {
			t.Errorf("Text(%+v): %q; want %q", n, text, want)
		}
	}
	if text := node.Text(node.Node{Name: "a", Cap: res.Vec{}, Labels: label.Set{}, Taints: []taint.Taint{}}); text != "a - - - up" {
		t.Errorf("Text of none: %q", text)
	}
}

func TestP601ParseReadsWhatTextTells(t *testing.T) {
	for text, want := range ordinary() {
		n, e := node.Parse(text)
		if e != api.OK || !node.Same(n, want) || node.Text(n) != text || node.Check(n) != api.OK {
			t.Errorf("Parse(%q): %+v %v", text, n, e)
		}
	}
}

// refused: each text is refused with that error, and a zero Node is beside it.
func refused(t *testing.T, want api.Errno, texts ...string) {
	t.Helper()
	for _, text := range texts {
		if n, e := node.Parse(text); e != want || !isZero(n) {
			t.Errorf("Parse(%.100q): %+v %v; want %v", text, n, e, want)
		}
	}
}

func TestP601ParseRefusesForms(t *testing.T) {
	refused(t, api.ErrForm,
		// fewer than five words, and more
		"", "a", "up", "a up", "a - up", "a - - up", "a - - -", "- - - up", "a - - - - up", "a - - - up up", "a - - - up cordon", "a b=1 c:d e:f g:h up", "a a - - - up", strings.Repeat("a ", 1000), strings.Repeat(" ", 1<<20),
		// two blanks together, at the front, at the end
		"a  - - - up", "a -  - - up", "a - -  - up", "a - - -  up", "a  - - up", "a -  - up", "a - -  up", " a - - - up", "  - - - up", "a - - - up ", "a - - - ", "a - -  ", " ", "    ", "     ", " - - up", "  - - up", " a - - up",
		// another blank between
		"a\t-\t-\t-\tup", "a\t- - - up", "a - - -\tup", "a\n-\n-\n-\nup", "a - - - up\n", "a,-,-,-,up", "a\u00a0-\u00a0-\u00a0-\u00a0up",
		// the last word
		"a - - - -", "a - - - Up", "a - - - UP", "a - - - u", "a - - - upp", "a - - - xup", "a - - - down", "a - - - Cordon", "a - - - cordo", "a - - - cordons", "a - - - up,cordon", "a - - - true", "a - - - a", "up - - - a", "a up - - -", "cordon - - - -", "a - - - \x00up")
}

func TestP601ParseRefusesWords(t *testing.T) {
	refused(t, api.ErrForm, "a b - - up", "a = - - up", "a b= - - up", "a b=01 - - up", "a b=1, - - up", "a -,b=1 - - up", "a b:1 - - up", "a up - - up", "a -- - - up")
	refused(t, api.ErrForm, "a - b - up", "a - b:c, - up", "a - b:c:d - up", "a - b=1 - up", "a - -,b:c - up", "a - -b - up", "a - up - up", "a - -- - up")
	refused(t, api.ErrForm, "a - - b up", "a - - b! up", "a - - b:c, up", "a - - b:c:d up", "a - - b=1 up", "a - - -,b:c up", "a - - * up", "a - - up up", "a - - -- up")
	refused(t, api.ErrOver, "a b=9223372036854775808 - - up", "a b=1,c="+strings.Repeat("9", 100)+" - - cordon")
	refused(t, api.ErrLong, "a "+res.Text(amounts(9))+" - - up", "a - "+label.Text(pairs(9))+" - up", "a - - "+taint.Text(taints(9))+" up")
	refused(t, api.ErrArg, "a b=0 - - up")
	refused(t, api.ErrName, "a B=1 - - up", "a =1 - - up", "a - b:C - up", "a - : - up", "a - b!c:d - up", "a - - B:c up", "a - - b:c!! up", "a - - *:c up")
	refused(t, api.ErrOrder, "a c=1,b=1 - - up", "a b=1,b=1 - - up", "a - c:x,b:x - up", "a - b:x,b:y - up")
	refused(t, api.ErrTwice, "a - - b:c,b:c up", "a - - b:c,b:c! up")
	for _, bad := range append(trial.NotNames(), "", "-") {
		refused(t, api.ErrName, bad+" - - - up", bad+" b=1 c:d e:f! cordon")
	}
}

// wrongCaps, wrongLabels and wrongTaints: words of that place, sound and wrong ones, each with its error.
func wrongCaps() map[string]api.Errno {
	return map[string]api.Errno{"-": api.OK, "b=1": api.OK, "": api.ErrForm, "b": api.ErrForm, "b=9223372036854775808": api.ErrOver, res.Text(amounts(9)): api.ErrLong, "B=1": api.ErrName, "b=0": api.ErrArg, "b=1,a=1": api.ErrOrder}
}

func wrongLabels() map[string]api.Errno {
	return map[string]api.Errno{"-": api.OK, "b:x": api.OK, "": api.ErrForm, "b": api.ErrForm, label.Text(pairs(9)): api.ErrLong, "B:x": api.ErrName, "b:x,a:x": api.ErrOrder}
}

func wrongTaints() map[string]api.Errno {
	return map[string]api.Errno{"-": api.OK, "b:x!": api.OK, "": api.ErrForm, "b!": api.ErrForm, taint.Text(taints(9)): api.ErrLong, "B:x": api.ErrName, "b:x,b:x": api.ErrTwice}
}

// The form of the whole is asked first, then each word in order, then what Check asks: a Name that is none is told last.
func TestP601ParseTellsTheFirstError(t *testing.T) {
	for v, ofCap := range wrongCaps() {
		for s, ofLabels := range wrongLabels() {
			for l, ofTaints := range wrongTaints() {
				words := v + " " + s + " " + l + " "
				ofWords := firstOf(ofCap, ofLabels, ofTaints)
				checkParse(t, "a "+words+"up", ofWords)
				checkParse(t, "a "+words+"cordon", ofWords)
				checkParse(t, "A "+words+"up", firstOf(ofWords, api.ErrName))
				checkParse(t, " "+words+"cordon", firstOf(ofWords, api.ErrName))
				refused(t, api.ErrForm, "a "+words+"Up", "A "+words, "a "+words+"up ", "a - "+words+"up", "A "+words+"up up")
			}
		}
	}
}

// checkParse: the text is read just as it is written, or refused with that error.
func checkParse(t *testing.T, text string, want api.Errno) {
	t.Helper()
	if want != api.OK {
		refused(t, want, text)
		return
	}
	if n, e := node.Parse(text); e != api.OK || node.Text(n) != text || node.Check(n) != api.OK {
		t.Errorf("Parse(%q): %+v %v", text, n, e)
	}
}

// Texts of the signs that matter, of up to five around five words: each is read as it is written, or refused, with no panic.
func TestP601WhatIsReadIsToldJustSoWritten(t *testing.T) {
	for text := range trial.Texts("aB1=:!,- ", 5) {
		checkBack(t, text, "a ", " - - up")
		checkBack(t, text, "a - ", " - up")
		checkBack(t, text, "a - - ", " cordon")
		checkBack(t, text, "", " up")
	}
}

func checkBack(t *testing.T, text, ahead, behind string) {
	t.Helper()
	text = ahead + text + behind
	n, e := node.Parse(text)
	if e == api.OK && (node.Text(n) != text || node.Check(n) != api.OK) || e != api.OK && !isZero(n) {
		t.Errorf("Parse(%q): %+v %v", text, n, e)
	}
	if strings.Count(text, " ") != 4 && e != api.ErrForm {
		t.Errorf("Parse(%q): %v", text, e)
	}
}

func checksAll(t *testing.T, want api.Errno, l ...[]node.Node) {
	t.Helper()
	for _, x := range l {
		if e := node.CheckAll(x); e != want {
			t.Errorf("CheckAll(%.300v): %v; want %v", x, e, want)
		}
	}
}

func TestP601CheckAll(t *testing.T) {
	checksAll(t, api.OK, nil, []node.Node{}, named("a"), named("a", "b"), named("0", "9", "a", "aa", "ab", "b", longest[1:]), []node.Node{whole()}, row(31), row(32))
	checksAll(t, api.ErrLong, row(33), row(100), make([]node.Node, 33))
	checksAll(t, api.ErrOrder, named("b", "a"), named("a", "a"), named("aa", "a"), named("a", "9"), named("a", "c", "b"), named("a", "b", "c", "c"), named("a", "b", "a"), append(row(31), named("n1")...), append(row(31), row(1)...))
	// one Name twice, of Nodes that differ
	checksAll(t, api.ErrOrder, []node.Node{whole(), changed(func(n *node.Node) { n.Cordon, n.Cap = false, nil })})
	checksAll(t, api.ErrName, named(""), named("A"), named("a", "B"), append(row(31), named("z-")...), make([]node.Node, 32))
	checksAll(t, api.ErrArg, []node.Node{{Name: "a"}, {Name: "b", Cap: res.Vec{amount("x", 0)}}})
	checksAll(t, api.ErrOrder, []node.Node{{Name: "a"}, {Name: "b", Labels: label.Set{pair("x", "y"), pair("x", "z")}}, {Name: "c"}})
	checksAll(t, api.ErrTwice, []node.Node{{Name: "a", Taints: []taint.Taint{soft("x", "y"), hard("x", "y")}}, {Name: "b"}})
}

// Too many are told ahead of all, then the first Node's errors, of one Node Check's ahead of its order.
func TestP601CheckAllTellsTheFirstError(t *testing.T) {
	arg := node.Node{Name: "a", Cap: res.Vec{amount("x", 0)}}
	checksAll(t, api.ErrLong, append(named("b", "A"), row(31)...), append(row(32), arg), append(row(32), row(1)...))
	checksAll(t, api.ErrName, named("b", "A", "a"), named("b", "A"), append(named("A"), arg), append(named("", "b", "a"), arg))
	checksAll(t, api.ErrArg, append(named("b"), arg), []node.Node{arg, arg}, append([]node.Node{arg}, named("A")...))
	checksAll(t, api.ErrOrder, named("b", "a", "A"), append(named("b", "a"), arg), append(named("a", "a"), arg))
}

func TestP601Find(t *testing.T) {
	l := row(32)
	for i, n := range l {
		l[i].Cap = res.Vec{amount("at", int64(i)+1)}
		if found, ok := node.Find(l, n.Name); !ok || !node.Same(found, l[i]) {
			t.Errorf("Find %s: %+v %v", n.Name, found, ok)
		}
	}
	if found, ok := node.Find([]node.Node{{Name: "a"}, whole(), {Name: "z"}}, "n1"); !ok || !node.Same(found, whole()) {
		t.Errorf("Find n1: %+v %v", found, ok)
	}
	for _, name := range []string{"", "n", "n1", "n10000", "n1032", "N1000", "n1000 ", "z", node.Text(l[0])} {
		if found, ok := node.Find(l, name); ok || !isZero(found) {
			t.Errorf("Find %q: %+v %v", name, found, ok)
		}
	}
	for _, none := range [][]node.Node{nil, {}} {
		if found, ok := node.Find(none, ""); ok || !isZero(found) {
			t.Errorf("Find of none: %+v %v", found, ok)
		}
	}
}

// Of several of one Name the first one is found (P9), and the order of names is not asked for.
func TestP601FindTakesTheFirst(t *testing.T) {
	l := append(named("z", "a", "m"), whole(), node.Node{Name: "n1"}, node.Node{Name: "a", Cordon: true})
	for name, at := range map[string]int{"z": 0, "a": 1, "m": 2, "n1": 3} {
		if found, ok := node.Find(l, name); !ok || !node.Same(found, l[at]) {
			t.Errorf("Find %s: %+v %v", name, found, ok)
		}
	}
}

// roomy: a Node each list of which has spare room; and all of that memory.
func roomy() (node.Node, node.Node) {
	all := whole()
	all.Cap = append(all.Cap, amount("spare", 1), amount("spare", 2))
	all.Labels = append(all.Labels, pair("spare", "a"), pair("spare", "b"))
	all.Taints = append(all.Taints, soft("spare", "a"), hard("spare", "b"))
	n := all
	n.Cap, n.Labels, n.Taints = n.Cap[:2], n.Labels[:2], n.Taints[:2]
	return n, all
}

// overwrite writes into a Node's lists, their spare room too.
func overwrite(n node.Node) {
	trial.Overwrite(n.Cap, amount("mine", 77))
	trial.Overwrite(n.Labels, pair("mine", "mine"))
	trial.Overwrite(n.Taints, hard("mine", "mine"))
}

func TestP2FindAnswersNewMemory(t *testing.T) {
	n, all := roomy()
	_, before := roomy()
	l := append(named("a"), n)
	found, _ := node.Find(l, "n1")
	overwrite(found)
	again, _ := node.Find(l, "n1")
	if !node.Same(all, before) || !node.Same(l[1], whole()) || !node.Same(again, whole()) {
		t.Errorf("Find answered what it was handed: %+v", all)
	}
}

func TestP2ParseAnswersNewMemory(t *testing.T) {
	for text, want := range ordinary() {
		first, _ := node.Parse(text)
		overwrite(first)
		if again, _ := node.Parse(text); !node.Same(again, want) {
			t.Errorf("Parse(%q) answered one list twice: %+v", text, again)
		}
	}
}

func TestP2NothingHandedInIsChanged(t *testing.T) {
	n, all := roomy()
	_, before := roomy()
	wholeRow := append(named("b", "a"), n, node.Node{Name: "spare"})
	rowBefore := slices.Clone(wholeRow)
	l := wholeRow[:3]
	node.Check(n)
	node.Same(n, l[0])
	node.Same(n, n)
	node.Text(n)
	node.Find(l, "n1")
	node.CheckAll(l)
	node.CheckAll(l[1:])
	if !node.Same(all, before) || !same(wholeRow, rowBefore) {
		t.Errorf("%+v became %+v, %+v became %+v", before, all, rowBefore, wholeRow)
	}
}

func TestP3SameCallsAnswerTheSame(t *testing.T) {
	for range 3 {
		refused(t, api.ErrForm, "a b - - up")
		checkParse(t, "a b=1 c:d e:f! up", api.OK)
		refused(t, api.ErrTwice, "a - - b:c,b:c up")
		checks(t, api.OK, whole())
		checks(t, api.ErrName, node.Node{})
		checksAll(t, api.ErrOrder, named("b", "a"))
		checksAll(t, api.OK, named("a", "b"))
	}
}

// Whatever plain data is given, no call goes out by a panic, also where Check refuses what others are handed.
func TestP1EveryCallEnds(t *testing.T) {
	l := []node.Node{
		{},
		{Name: "\xff \x00", Cap: res.Vec{amount("\xff", -1<<63), {}}, Labels: label.Set{pair(" ", ","), {}}, Taints: []taint.Taint{hard("!", ":"), {}}},
		{Name: strings.Repeat(" ", 1000), Cap: make(res.Vec, 1000), Labels: make(label.Set, 1000), Taints: make([]taint.Taint, 1000)},
		whole(),
	}
	for _, n := range l {
		node.Check(n)
		node.Parse(node.Text(n))
		node.Find(l, n.Name)
		for _, o := range l {
			node.Same(n, o)
		}
	}
	node.CheckAll(l)
	node.CheckAll(l[3:])
	node.CheckAll(make([]node.Node, 100000))
	for _, text := range []string{"\xff", "\x00 \x00 \x00 \x00 up", strings.Repeat(" ", 4), strings.Repeat(", ", 4) + "up", strings.Repeat("a", 1<<20) + " - - - up"} {
		node.Parse(text)
	}
}
