package budget_test

import (
	"slices"
	"strconv"
	"strings"
	"testing"

	"ballast/api"
	"ballast/budget"
	"ballast/label"
	"ballast/pod"
	"ballast/res"
	"ballast/trial"
)

const longest = "abcdefghijkl"

// whole: a Budget that has all parts, its Sel with more than one Term.
func whole() budget.Budget {
	return budget.Budget{Name: "web2", Sel: label.Sel{{Op: label.Is, Key: "app", Val: "web"}, {Op: label.Lacks, Key: "gpu"}}, Floor: 2}
}

const wholeText = "web2 app:web,-gpu 2"

// changed: another one than whole, by that change alone.
func changed(change func(b *budget.Budget)) budget.Budget {
	b := whole()
	change(&b)
	return b
}

func same(a, b budget.Budget) bool {
	return a.Name == b.Name && slices.Equal(a.Sel, b.Sel) && a.Floor == b.Floor
}

func isZero(b budget.Budget) bool { return same(b, budget.Budget{}) && b.Sel == nil }

func named(names ...string) []budget.Budget {
	var l []budget.Budget
	for _, name := range names {
		l = append(l, budget.Budget{Name: name})
	}
	return l
}

// row: that many Budgets with names that rise.
func row(count int) []budget.Budget {
	var l []budget.Budget
	for i := range count {
		l = append(l, changed(func(b *budget.Budget) { b.Name = "b" + strconv.Itoa(10+i) }))
	}
	return l
}

func terms(count int) label.Sel {
	return slices.Repeat(label.Sel{{Op: label.Has, Key: "k"}}, count)
}

func checks(t *testing.T, want api.Errno, l ...budget.Budget) {
	t.Helper()
	for _, b := range l {
		if e := budget.Check(b); e != want {
			t.Errorf("Check(%.300q): %v; want %v", budget.Text(b), e, want)
		}
	}
}

func TestP801Check(t *testing.T) {
	checks(t, api.OK,
		whole(),
		budget.Budget{Name: "a"},
		budget.Budget{Name: "0", Sel: label.Sel{}},
		budget.Budget{Name: longest, Sel: terms(8), Floor: 128},
		// one name for all is none too many, nor is one Term twice
		budget.Budget{Name: "a", Sel: label.Sel{{Op: label.Is, Key: "a", Val: "a"}, {Op: label.Is, Key: "a", Val: "a"}}})
	for _, bad := range slices.Concat(trial.NotNames(), trial.Spaced(), []string{"", "-"}) {
		checks(t, api.ErrName, budget.Budget{Name: bad}, changed(func(b *budget.Budget) { b.Name = bad }))
	}
}

func TestP801CheckFloor(t *testing.T) {
	for floor, want := range map[int]api.Errno{0: api.OK, 1: api.OK, 127: api.OK, 128: api.OK, 129: api.ErrArg, 1<<63 - 1: api.ErrArg, -1: api.ErrArg, -128: api.ErrArg, -1 << 63: api.ErrArg} {
		checks(t, want, budget.Budget{Name: "a", Floor: floor}, changed(func(b *budget.Budget) { b.Floor = floor }))
	}
}

// faults, in the order in which Check asks for them.
func faults() [][]trial.Fault[budget.Budget] {
	return [][]trial.Fault[budget.Budget]{
		{
			trial.Spoilt(api.ErrName, func(b *budget.Budget) { b.Name = "W" }),
			trial.Spoilt(api.ErrName, func(b *budget.Budget) { b.Name = "" }),
		},
		{
			trial.Spoilt(api.ErrLong, func(b *budget.Budget) { b.Sel = terms(9) }),
			trial.Spoilt(api.ErrArg, func(b *budget.Budget) { b.Sel = label.Sel{{Key: "k"}} }),
			trial.Spoilt(api.ErrName, func(b *budget.Budget) { b.Sel = label.Sel{{Op: label.Has, Key: "K"}} }),
			trial.Spoilt(api.ErrName, func(b *budget.Budget) { b.Sel = label.Sel{{Op: label.Lacks, Key: "k", Val: "v"}} }),
		},
		{
			trial.Spoilt(api.ErrArg, func(b *budget.Budget) { b.Floor = -1 }),
			trial.Spoilt(api.ErrArg, func(b *budget.Budget) { b.Floor = 129 }),
		},
	}
}

func TestP801CheckTellsTheFirstError(t *testing.T) {
	for b, want := range trial.Faulty(whole, faults()) {
		checks(t, want, b)
	}
}

// standing: a real Pod on a node.
func standing(name, labels string) pod.Pod {
	set, _ := label.Parse(labels)
	return pod.Pod{Name: name, Labels: set, Node: "n1"}
}

func nowhere(name, labels string) pod.Pod {
	p := standing(name, labels)
	p.Node = ""
	return p
}

func placeholder(name, labels string) pod.Pod {
	p := standing(name, labels)
	p.Prio, p.Hold = -1, true
	return p
}

// pods: three webs and a db on nodes, one of each that is nowhere, one of each that is a placeholder.
func pods() []pod.Pod {
	l := []pod.Pod{
		standing("db0", "app:db"),
		nowhere("db1", "app:db"),
		placeholder("db2", "app:db"),
		standing("web0", "app:web"),
		standing("web1", "app:web,gpu:old"),
		standing("web2", "app:web,tier:front"),
		nowhere("web3", "app:web"),
		placeholder("web4", "app:web"),
	}
	l[4].Node = "n2"
	return l
}

// budgetsOf reads Budgets with `;` between.
func budgetsOf(t *testing.T, texts string) []budget.Budget {
	t.Helper()
	var l []budget.Budget
	for text := range strings.SplitSeq(texts, ";") {
		b, e := budget.Parse(text)
		if e != api.OK {
			t.Fatalf("Parse(%q): %v", text, e)
		}
		l = append(l, b)
	}
	return l
}

func TestP801Count(t *testing.T) {
	for sel, want := range map[string]int{
		"-":               4,
		"app":             4,
		"app:web":         3,
		"app:db":          1,
		"app:cache":       0,
		"app!web":         1,
		"app!cache":       4,
		"zone!a":          4,
		"-app":            0,
		"-gpu":            3,
		"gpu":             1,
		"app:web,-gpu":    2,
		"app:web,app:db":  0,
		"app:web,tier":    1,
		"tier:front,gpu":  0,
		"app!db,tier!top": 3,
	} {
		for _, b := range budgetsOf(t, "a "+sel+" 0;b "+sel+" 1;c "+sel+" 128") {
			if count := budget.Count(b, pods()); count != want {
				t.Errorf("Count(%q): %d; want %d", budget.Text(b), count, want)
			}
		}
	}
}

func TestP801CountAsksForNodeAndHold(t *testing.T) {
	for _, c := range []struct {
		p    pod.Pod
		want int
	}{
		{standing("p", "app:web"), 1},
		{nowhere("p", "app:web"), 0},
		{placeholder("p", "app:web"), 0},
		{pod.Pod{Name: "p", Prio: -1, Labels: label.Set{{Key: "app", Val: "web"}}, Hold: true}, 0},
		{standing("p", "app:db"), 0},
		{standing("p", "-"), 0},
		// it is the Labels that a Budget asks for, not what the Pod itself asks of nodes, and not its Owner
		{pod.Pod{Name: "p", Owner: "web", Sel: label.Sel{{Op: label.Is, Key: "app", Val: "web"}}, Key: "app", Most: 1, Node: "n1"}, 0},
		// a real one of the least Prio is none the less
		{pod.Pod{Name: "p", Prio: 0, Labels: label.Set{{Key: "app", Val: "web"}, {Key: "tier", Val: "x"}}, Node: "web"}, 1},
	} {
		b := budget.Budget{Name: "a", Sel: label.Sel{{Op: label.Is, Key: "app", Val: "web"}}}
		if count := budget.Count(b, []pod.Pod{c.p}); count != c.want {
			t.Errorf("Count of %q: %d; want %d", pod.Text(c.p), count, c.want)
		}
	}
}

func TestP801CountOfNoneAndOfMany(t *testing.T) {
	for _, sel := range []label.Sel{nil, {}} {
		b := budget.Budget{Name: "a", Sel: sel, Floor: 1}
		for _, none := range [][]pod.Pod{nil, {}} {
			if count := budget.Count(b, none); count != 0 {
				t.Errorf("Count of none: %d", count)
			}
		}
		var many []pod.Pod
		for i := range api.MaxPods {
			many = append(many, standing("p"+strconv.Itoa(1000+i), "-"))
		}
		if count := budget.Count(b, many); count != api.MaxPods {
			t.Errorf("Count of many: %d", count)
		}
	}
}

func breaches(t *testing.T, bs []budget.Budget, l []pod.Pod, want ...string) {
	t.Helper()
	if names := budget.Breached(bs, l); !slices.Equal(names, want) {
		t.Errorf("Breached(%v): %q; want %q", bs, names, want)
	}
}

func TestP801Breached(t *testing.T) {
	for texts, want := range map[string][]string{
		"a app:web 0":                  nil,
		"a app:web 2":                  nil,
		"a app:web 3":                  nil,
		"a app:web 4":                  {"a"},
		"a app:web 128":                {"a"},
		"a - 4":                        nil,
		"a - 5":                        {"a"},
		"a app:cache 0":                nil,
		"a app:cache 1":                {"a"},
		"a app:db 1;b app:web 3":       nil,
		"a app:db 2;b app:web 3":       {"a"},
		"a app:db 1;b app:web 4":       {"b"},
		"a app:db 2;b app:web 3;c - 5": {"a", "c"},
		"a app:db 2;b app:web 4;c - 5": {"a", "b", "c"},
		"a app:web 4;b app:web 4":      {"a", "b"},
	} {
		breaches(t, budgetsOf(t, texts), pods(), want...)
	}
}

// The names stand as the Budgets do, whatever their Counts are, and however they are called.
func TestP801BreachedInOrder(t *testing.T) {
	breaches(t, budgetsOf(t, "a - 9;b app:web 9;c app:db 0;d app:db 9;e app:cache 9"), pods(), "a", "b", "d", "e")
	breaches(t, budgetsOf(t, "e app:cache 9;d app:db 9;c app:db 0;b app:web 9;a - 9"), pods(), "e", "d", "b", "a")
	breaches(t, budgetsOf(t, "b - 9;a - 9;b app:db 9;a - 0"), pods(), "b", "a", "b")
}

func TestP801BreachedOfNone(t *testing.T) {
	for _, none := range [][]budget.Budget{nil, {}} {
		breaches(t, none, pods())
		breaches(t, none, nil)
	}
	for _, none := range [][]pod.Pod{nil, {}} {
		breaches(t, budgetsOf(t, "a - 0;b - 1;c app:web 0;d app:web 128"), none, "b", "d")
	}
}

func TestP801Allows(t *testing.T) {
	for _, c := range []struct{ texts, name, keeper string }{
		// a Count of 3, above its Floor, at it, below it
		{"a app:web 0", "web0", ""},
		{"a app:web 2", "web0", ""},
		{"a app:web 3", "web0", "a"},
		{"a app:web 4", "web0", "a"},
		{"a app:web 128", "web0", "a"},
		{"a app:web 3", "web1", "a"},
		{"a app:db 0", "db0", ""},
		{"a app:db 1", "db0", "a"},
		// an empty Sel matches all
		{"a - 3", "db0", ""},
		{"a - 4", "db0", "a"},
		{"a - 4", "web2", "a"},
		// none matches it, however badly they stand
		{"a app:web 128", "db0", ""},
		{"a app:db 1;b app:cache 1;c -app 9", "web0", ""},
		{"a app:web,-gpu 2", "web1", ""},
		{"a app:web,-gpu 2", "web0", "a"},
		// several match: the first whose Count is not above its Floor
		{"a app:web 3;b - 4", "web0", "a"},
		{"b - 4;a app:web 3", "web0", "b"},
		{"a app:web 2;b - 4", "web0", "b"},
		{"a app:web 2;b - 3", "web0", ""},
		{"a app:db 9;b app:web 9;c - 9", "web0", "b"},
		{"a app:db 9;b app:web 9;c - 9", "db0", "a"},
		{"b app:web 2;c app!db 3;a - 4", "web2", "c"},
		// one that is none, one that is nowhere, a placeholder
		{"a - 128", "", ""},
		{"a - 128", "web", ""},
		{"a - 128", "web9", ""},
		{"a - 128", "WEB0", ""},
		{"a - 128", "a", ""},
		{"a - 128", "n1", ""},
		{"a - 128", "web3", ""},
		{"a app:web 3", "web3", ""},
		{"a - 128", "web4", ""},
		{"a app:web 3", "web4", ""},
		{"a app:db 1", "db1", ""},
		{"a app:db 1", "db2", ""},
	} {
		allows(t, budgetsOf(t, c.texts), pods(), c.name, c.keeper)
	}
}

// allows: the Budget of that name keeps the Pod (none: it may go).
func allows(t *testing.T, bs []budget.Budget, l []pod.Pod, name, keeper string) {
	t.Helper()
	if kept, free := budget.Allows(bs, l, name); kept != keeper || free != (keeper == "") {
		t.Errorf("Allows(%v, %q): %q %v; want %q", bs, name, kept, free, keeper)
	}
}

func TestP801AllowsOfNone(t *testing.T) {
	for _, none := range [][]budget.Budget{nil, {}} {
		allows(t, none, pods(), "web0", "")
		allows(t, none, nil, "web0", "")
	}
	for _, none := range [][]pod.Pod{nil, {}} {
		allows(t, budgetsOf(t, "a - 0;b - 1;c app:web 128"), none, "web0", "")
		allows(t, budgetsOf(t, "a - 0;b - 1;c app:web 128"), none, "", "")
	}
}

// Of several Pods of one Name the first one is asked for (P9).
func TestP801AllowsTakesTheFirst(t *testing.T) {
	bs := budgetsOf(t, "a app:web 9;b app:db 9")
	l := []pod.Pod{standing("p", "app:db"), standing("p", "app:web"), nowhere("q", "app:web"), standing("q", "app:web")}
	allows(t, bs, l, "p", "b")
	allows(t, bs, l, "q", "")
}

// A Pod may go just where no Budget that matches it is breached once it is gone.
func TestP801AllowsTellsWhatIsBreachedThen(t *testing.T) {
	l := pods()
	for i, p := range l {
		without := slices.Delete(slices.Clone(l), i, i+1)
		for _, sel := range []string{"-", "app", "app:web", "app!web", "app:db", "gpu", "-gpu", "app:cache"} {
			for floor := range 7 {
				bs := budgetsOf(t, "a "+sel+" "+strconv.Itoa(floor))
				matches := p.Node != "" && !p.Hold && label.Match(bs[0].Sel, p.Labels)
				keeper := ""
				if matches && len(budget.Breached(bs, without)) > 0 {
					keeper = "a"
				}
				allows(t, bs, l, p.Name, keeper)
			}
		}
	}
}

// ordinary: Budgets by their texts.
func ordinary() map[string]budget.Budget {
	return map[string]budget.Budget{
		wholeText:             whole(),
		"a - 0":               {Name: "a"},
		"0 - 1":               {Name: "0", Floor: 1},
		"a - 128":             {Name: "a", Floor: 128},
		"a b 0":               {Name: "a", Sel: label.Sel{{Op: label.Has, Key: "b"}}},
		"a -b 10":             {Name: "a", Sel: label.Sel{{Op: label.Lacks, Key: "b"}}, Floor: 10},
		"a b:c 9":             {Name: "a", Sel: label.Sel{{Op: label.Is, Key: "b", Val: "c"}}, Floor: 9},
		"a b!c 9":             {Name: "a", Sel: label.Sel{{Op: label.Not, Key: "b", Val: "c"}}, Floor: 9},
		"1 2 3":               {Name: "1", Sel: label.Sel{{Op: label.Has, Key: "2"}}, Floor: 3},
		longest + " -a,b,a 0": {Name: longest, Sel: label.Sel{{Op: label.Lacks, Key: "a"}, {Op: label.Has, Key: "b"}, {Op: label.Has, Key: "a"}}},
		"a k,k,k,k,k,k,k,k 0": {Name: "a", Sel: terms(8)},
	}
}

func TestP801Text(t *testing.T) {
	for want, b := range ordinary() {
		if text := budget.Text(b); text != want {
			t.Errorf("Text(%+v): %q; want %q", b, text, want)
		}
	}
	if text := budget.Text(budget.Budget{Name: "a", Sel: label.Sel{}}); text != "a - 0" {
		t.Errorf("Text of no Terms: %q", text)
	}
}

func TestP801ParseReadsWhatTextTells(t *testing.T) {
	for text, want := range ordinary() {
		b, e := budget.Parse(text)
		if e != api.OK || !same(b, want) || budget.Text(b) != text || budget.Check(b) != api.OK {
			t.Errorf("Parse(%q): %+v %v", text, b, e)
		}
	}
	for floor := range api.MaxPods + 1 {
		text := "a - " + strconv.Itoa(floor)
		if b, e := budget.Parse(text); e != api.OK || b.Floor != floor {
			t.Errorf("Parse(%q): %+v %v", text, b, e)
		}
	}
}

// refused: each text is refused with that error, and a zero Budget is beside it.
func refused(t *testing.T, want api.Errno, texts ...string) {
	t.Helper()
	for _, text := range texts {
		if b, e := budget.Parse(text); e != want || !isZero(b) {
			t.Errorf("Parse(%.200q): %+v %v; want %v", text, b, e, want)
		}
	}
}

// with: the text of a Budget that is sound, one of its words another.
func with(at int, word string) string { return trial.With(wholeText, at, word) }

func TestP801ParseRefusesForms(t *testing.T) {
	refused(t, api.ErrForm,
		// fewer than three words, and more
		"", "a", "-", "0", "a -", "a 0", "- 0", "a - 0 0", "a - 0 x", "a - b 0", "a b - 0", wholeText+" "+wholeText, strings.Repeat("a ", 1000), strings.Repeat(" ", 1<<20),
		// two blanks together, at the front, at the end
		"a  - 0", "a -  0", "a  0", "a - ", " a - 0", "a - 0 ", "a -  ", " ", "  ", "   ",
		// another blank between
		"a\t-\t0", "a\t- 0", "a -\t0", "a\n-\n0", "a - 0\n", "a,-,0", "a\u00a0-\u00a00",
		// an empty word, as two blanks together leave it, is no Sel and no Floor
		with(1, ""), with(2, ""))
}

func TestP801ParseFloor(t *testing.T) {
	for _, floor := range []string{"-", "-1", "-0", "+1", "+0", "00", "01", "007", "0128", "1_0", "0x1", "1e1", "1.0", "a", "2a", "１", "1\t", "1,", "2147483648", "4294967296", "4294967297", "9223372036854775808", "18446744073709551616", strings.Repeat("9", 1000), strings.Repeat("0", 1000)} {
		refused(t, api.ErrForm, "a - "+floor, with(2, floor))
	}
	for _, floor := range []string{"129", "1000", "2147483646", "2147483647"} {
		refused(t, api.ErrArg, "a - "+floor, with(2, floor))
	}
}

func TestP801ParseRefusesNames(t *testing.T) {
	for _, bad := range append(trial.NotNames(), "-", "") {
		refused(t, api.ErrName, bad+" - 0", bad+" a 0", with(0, bad))
	}
}

func TestP801ParseRefusesSels(t *testing.T) {
	for want, words := range map[api.Errno][]string{
		api.ErrForm: {"b,", ",b", ",", "b,,b", "b:c:d", "b!c!d", "b:c!d", "-b:c", "-b!c"},
		api.ErrLong: {label.SelText(terms(9))},
		api.ErrName: {"B", "b:", ":b", "b:C", "b!", "--", "-,b", "b,-", "b=1", "*", longest + "m", "b\t"},
	} {
		for _, word := range words {
			refused(t, want, "a "+word+" 0", with(1, word))
		}
	}
}

// wrongWords, in the order in which Parse asks for them: forms, then the selector's word, then what Check asks for; those of one group are told alike ahead of the groups behind.
func wrongWords() [][]trial.Word {
	wrong := trial.Wrong
	return [][]trial.Word{
		{wrong(2, "01", api.ErrForm), wrong(2, "-1", api.ErrForm), wrong(2, "", api.ErrForm), wrong(2, "2147483648", api.ErrForm), wrong(0, "a b", api.ErrForm), wrong(2, "0 ", api.ErrForm)},
		{wrong(1, "", api.ErrForm), wrong(1, "b:c:d", api.ErrForm), wrong(1, "B", api.ErrName), wrong(1, "b:", api.ErrName), wrong(1, label.SelText(terms(9)), api.ErrLong)},
		{wrong(0, "W", api.ErrName), wrong(0, "", api.ErrName)},
		{wrong(2, "129", api.ErrArg), wrong(2, "2147483647", api.ErrArg)},
	}
}

func TestP801ParseTellsTheFirstError(t *testing.T) {
	for text, want := range trial.WrongTexts(wholeText, wrongWords()) {
		refused(t, want, text)
	}
}

// Texts of the signs that matter: each is read as it is written, or refused, with no panic.
func TestP801WhatIsReadIsToldJustSoWritten(t *testing.T) {
	for text := range trial.Texts("aB01:!,- ", 5) {
		checkBack(t, text)
		checkBack(t, text+" - 0")
		checkBack(t, "a "+text+" 0")
		checkBack(t, "a - "+text)
	}
}

func checkBack(t *testing.T, text string) {
	t.Helper()
	b, e := budget.Parse(text)
	if e == api.OK && (budget.Text(b) != text || budget.Check(b) != api.OK) || e != api.OK && !isZero(b) {
		t.Errorf("Parse(%q): %+v %v", text, b, e)
	}
	if strings.Count(text, " ") != 2 && e != api.ErrForm {
		t.Errorf("Parse(%q): %v", text, e)
	}
}

func checksAll(t *testing.T, want api.Errno, l ...[]budget.Budget) {
	t.Helper()
	for _, x := range l {
		if e := budget.CheckAll(x); e != want {
			t.Errorf("CheckAll(%.300v): %v; want %v", x, e, want)
		}
	}
}

func TestP801CheckAll(t *testing.T) {
	checksAll(t, api.OK, nil, []budget.Budget{}, named("a"), named("a", "b"), named("0", "9", "a", "aa", "ab", "b"), []budget.Budget{{Name: "a", Floor: 9}, whole()}, row(7), row(8))
	checksAll(t, api.ErrLong, row(9), row(100), make([]budget.Budget, 9))
	checksAll(t, api.ErrOrder, named("b", "a"), named("a", "a"), named("aa", "a"), named("a", "9"), named("a", "c", "b"), named("a", "b", "a"), append(row(7), row(1)...))
	// one Name twice, of Budgets that differ
	checksAll(t, api.ErrOrder, []budget.Budget{whole(), changed(func(b *budget.Budget) { b.Sel, b.Floor = nil, 0 })})
	for _, f := range slices.Concat(faults()...) {
		checksAll(t, f.Want, []budget.Budget{changed(f.Spoil)}, append(named("a"), changed(f.Spoil)), append([]budget.Budget{changed(f.Spoil)}, named("z", "a")...))
	}
}

// Too many are told ahead of all, then the first Budget's errors, of one Budget Check's ahead of its order.
func TestP801CheckAllTellsTheFirstError(t *testing.T) {
	arg := budget.Budget{Name: "a", Floor: -1}
	checksAll(t, api.ErrLong, append(named("b", "A"), row(7)...), append(row(8), arg), append(row(8), row(1)...))
	checksAll(t, api.ErrName, named("b", "A", "a"), named("b", "A"), append(named("A"), arg), make([]budget.Budget, 8))
	checksAll(t, api.ErrArg, append(named("b"), arg), []budget.Budget{arg, arg}, append([]budget.Budget{arg}, named("A")...))
	checksAll(t, api.ErrOrder, named("b", "a", "A"), append(named("b", "a"), arg), append(named("a", "a"), arg))
}

// roomy: a Budget the Sel of which has spare room; and all of that memory.
func roomy() (budget.Budget, label.Sel) {
	b := whole()
	all := append(b.Sel, terms(2)...)
	b.Sel = all[:2]
	return b, all
}

func TestP2AnswersNewMemory(t *testing.T) {
	for text, want := range ordinary() {
		first, _ := budget.Parse(text)
		trial.Overwrite(first.Sel, label.Term{Op: label.Has, Key: "mine"})
		if again, _ := budget.Parse(text); !same(again, want) {
			t.Errorf("Parse(%q) answered one list twice: %+v", text, again)
		}
	}
	bs := budgetsOf(t, "a - 9;b - 9;c - 9")
	trial.Overwrite(budget.Breached(bs, nil), "mine")
	breaches(t, bs, nil, "a", "b", "c")
}

func TestP2NothingHandedInIsChanged(t *testing.T) {
	b, all := roomy()
	_, before := roomy()
	wholeRow := append(named("b", "a"), b, budget.Budget{Name: "spare"})
	rowBefore := slices.Clone(wholeRow)
	bs := wholeRow[:3]
	wholePods := pods()
	l := wholePods[:6]
	budget.Check(b)
	budget.Count(b, l)
	budget.Breached(bs, l)
	budget.Allows(bs, l, "web0")
	budget.Text(b)
	budget.CheckAll(bs)
	budget.CheckAll(bs[1:])
	if !slices.Equal(all, before) || !slices.EqualFunc(wholeRow, rowBefore, same) || !slices.EqualFunc(wholePods, pods(), pod.Same) {
		t.Errorf("%+v became %+v, %+v became %+v, the pods %+v", before, all, rowBefore, wholeRow, wholePods)
	}
}

func TestP3SameCallsAnswerTheSame(t *testing.T) {
	for range 3 {
		refused(t, api.ErrForm, "a - x")
		refused(t, api.ErrName, "A - 0")
		if b, e := budget.Parse(wholeText); e != api.OK || !same(b, whole()) {
			t.Errorf("Parse: %+v %v", b, e)
		}
		checks(t, api.OK, whole())
		checks(t, api.ErrName, budget.Budget{})
		checksAll(t, api.ErrOrder, named("b", "a"))
		breaches(t, budgetsOf(t, "a - 5;b app:web 4"), pods(), "a", "b")
		allows(t, budgetsOf(t, "a app:web 3"), pods(), "web0", "a")
		allows(t, budgetsOf(t, "a app:web 3"), pods(), "db0", "")
	}
}

// Whatever plain data is given, no call goes out by a panic, also where Check refuses what others are handed.
func TestP1EveryCallEnds(t *testing.T) {
	bs := []budget.Budget{
		{},
		{Name: "\xff \x00", Sel: label.Sel{{Op: -7, Key: "!", Val: ":"}, {}}, Floor: -1 << 63},
		{Name: strings.Repeat(" ", 1000), Sel: make(label.Sel, 1000), Floor: 1<<63 - 1},
		whole(),
	}
	l := []pod.Pod{
		{},
		{Node: "\xff", Hold: true},
		{Name: "\xff", Prio: -1 << 63, Need: make(res.Vec, 1000), Labels: make(label.Set, 1000), Node: " "},
		{Name: "\xff", Labels: label.Set{{Key: "app", Val: "web"}, {Key: "app", Val: "db"}}, Node: "n1"},
	}
	for _, b := range bs {
		budget.Check(b)
		budget.Count(b, l)
		budget.Parse(budget.Text(b))
	}
	budget.Breached(bs, l)
	for _, name := range []string{"", "\xff", "n1"} {
		budget.Allows(bs, l, name)
	}
	budget.CheckAll(bs)
	budget.CheckAll(bs[3:])
	budget.CheckAll(make([]budget.Budget, 100000))
	for _, text := range []string{"\xff", "  ", "\x00 \x00 \x00", ", , ,", "- - -", strings.Repeat("a", 1<<20) + " - 0", "a " + strings.Repeat(",", 1<<20) + " 0", "a - " + strings.Repeat("1", 1<<20)} {
		budget.Parse(text)
	}
}
