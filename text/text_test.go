package text_test

import (
	"slices"
	"strconv"
	"strings"
	"testing"
	"unsafe"

	"ballast/api"
	"ballast/budget"
	"ballast/label"
	"ballast/node"
	"ballast/pod"
	"ballast/res"
	"ballast/state"
	"ballast/taint"
	"ballast/text"
	"ballast/trial"
)

// wholeText: several of each kind; of the first of each, all parts.
const wholeText = `node a cpu=10,mem=5 disk:fast,zone:x gpu:yes!,age:old up
node b cpu=7 zone:y - cordon
node c - - - up
pod a web 5 cpu=3 app:web,tier:front zone:x,-gpu gpu:yes,* zone/2 a real
pod q - -1 cpu=2,mem=5 - - - - a hold
pod s - 0 cpu=100 - - - - - real
budget a app:web,-gpu 2
budget none - 0
`

// whole is the cluster of wholeText, made without a word of it being read.
func whole() state.State {
	return state.State{
		Nodes: []node.Node{
			{Name: "a", Cap: res.Vec{{Name: "cpu", N: 10}, {Name: "mem", N: 5}}, Labels: label.Set{{Key: "disk", Val: "fast"}, {Key: "zone", Val: "x"}}, Taints: []taint.Taint{{Key: "gpu", Val: "yes", Hard: true}, {Key: "age", Val: "old"}}},
			{Name: "b", Cap: res.Vec{{Name: "cpu", N: 7}}, Labels: label.Set{{Key: "zone", Val: "y"}}, Cordon: true},
			{Name: "c"},
		},
		Pods: []pod.Pod{
			{Name: "a", Owner: "web", Prio: 5, Need: res.Vec{{Name: "cpu", N: 3}}, Labels: label.Set{{Key: "app", Val: "web"}, {Key: "tier", Val: "front"}}, Sel: label.Sel{{Op: label.Is, Key: "zone", Val: "x"}, {Op: label.Lacks, Key: "gpu"}}, Tols: []taint.Tol{{Key: "gpu", Val: "yes"}, {Any: true}}, Key: "zone", Most: 2, Node: "a"},
			{Name: "q", Prio: -1, Need: res.Vec{{Name: "cpu", N: 2}, {Name: "mem", N: 5}}, Node: "a", Hold: true},
			{Name: "s", Need: res.Vec{{Name: "cpu", N: 100}}},
		},
		Budgets: []budget.Budget{
			{Name: "a", Sel: label.Sel{{Op: label.Is, Key: "app", Val: "web"}, {Op: label.Lacks, Key: "gpu"}}, Floor: 2},
			{Name: "none"},
		},
	}
}

// ordinary: clusters by their texts.
func ordinary() map[string]state.State {
	return map[string]state.State{
		"":                                   {},
		wholeText:                            whole(),
		"node a - - - up\n":                  {Nodes: []node.Node{{Name: "a"}}},
		"node a - - - up\nnode b - - - up\n": {Nodes: []node.Node{{Name: "a"}, {Name: "b"}}},
		"pod a - 0 - - - - - - real\n":       {Pods: []pod.Pod{{Name: "a"}}},
		"budget a - 0\n":                     {Budgets: []budget.Budget{{Name: "a"}}},
		"budget 0 - 1\nbudget 1 - 0\n":       {Budgets: []budget.Budget{{Name: "0", Floor: 1}, {Name: "1"}}},
		"node a - - - up\nbudget a - 0\n":    {Nodes: []node.Node{{Name: "a"}}, Budgets: []budget.Budget{{Name: "a"}}},
		"pod a - 0 - - - - - - real\n" + "pod b - -1 - - - - - - hold\n":                  {Pods: []pod.Pod{{Name: "a"}, {Name: "b", Prio: -1, Hold: true}}},
		"node node - - - up\npod pod - 0 - - - - - node real\nbudget budget pod,node 0\n": {Nodes: []node.Node{{Name: "node"}}, Pods: []pod.Pod{{Name: "pod", Node: "node"}}, Budgets: []budget.Budget{{Name: "budget", Sel: label.Sel{{Op: label.Has, Key: "pod"}, {Op: label.Has, Key: "node"}}}}},
	}
}

func TestP1001Text(t *testing.T) {
	for want, s := range ordinary() {
		if told := text.Text(s); told != want {
			t.Errorf("%q; want %q", told, want)
		}
	}
	none := state.State{Nodes: []node.Node{}, Pods: []pod.Pod{}, Budgets: []budget.Budget{}}
	if told := text.Text(none); told != "" {
		t.Errorf("none of each: %q", told)
	}
}

// reads: the text is a cluster, and that one.
func reads(t *testing.T, s string, want state.State) {
	t.Helper()
	if made, line, e := text.Parse(s); e != api.OK || line != 0 || !state.Same(made, want) {
		t.Errorf("Parse(%.600q): %.600q %d %v; want %.600q", s, text.Text(made), line, e, text.Text(want))
	}
}

// refuses: the text has that error, at that line; no cluster is beside it.
func refuses(t *testing.T, s string, line int, want api.Errno) {
	t.Helper()
	if made, at, e := text.Parse(s); e != want || at != line || !state.Same(made, state.State{}) {
		t.Errorf("Parse(%.600q): %.600q %d %v; want %d %v", s, text.Text(made), at, e, line, want)
	}
}

func TestP1001ParseReadsWhatTextTells(t *testing.T) {
	for s, want := range ordinary() {
		reads(t, s, want)
	}
}

func TestP1001ParseOfTheLastEnd(t *testing.T) {
	for s, want := range ordinary() {
		reads(t, strings.TrimSuffix(s, "\n"), want)
		reads(t, s+"\n", want)
	}
}

// Empty lines and remarks ahead, between and behind.
func TestP1001ParseLetsLinesBe(t *testing.T) {
	for _, other := range []string{"\n", "\n\n\n", "#\n", "# a\n", "##\n", "#node a - - - up\n", "# node z\n#pod\n", "\n# a\n\n", "#\t\xff\x00\n", "# " + strings.Repeat("long ", 10000) + "\n"} {
		reads(t, other, state.State{})
		reads(t, other+wholeText, whole())
		reads(t, wholeText+other, whole())
		reads(t, strings.ReplaceAll(wholeText, "\n", "\n"+other), whole())
		reads(t, other+strings.ReplaceAll(wholeText, "\n", "\n"+other), whole())
		reads(t, wholeText+strings.TrimSuffix(other, "\n"), whole())
	}
}

// permute yields the lines in each order in which those ahead of from stand where they do.
func permute(lines []string, from int, yield func([]string)) {
	if from == len(lines) {
		yield(lines)
		return
	}
	for i := from; i < len(lines); i++ {
		lines[from], lines[i] = lines[i], lines[from]
		permute(lines, from+1, yield)
		lines[from], lines[i] = lines[i], lines[from]
	}
}

func TestP1001ParseSortsByName(t *testing.T) {
	sorted := []string{
		"node a10 cpu=1 - - up",
		"node a2 cpu=3 - - cordon",
		"pod 9 - 1 cpu=1 - - - - a10 real",
		"pod a - 5 - - - - - a2 real",
		"pod aa - 9 cpu=1 - - - - a2 real",
		"budget b - 7",
		"budget c - 3",
	}
	want := strings.Join(sorted, "\n") + "\n"
	permute(slices.Clone(sorted), 0, func(lines []string) {
		made, line, e := text.Parse(strings.Join(lines, "\n"))
		if e != api.OK || line != 0 || text.Text(made) != want {
			t.Fatalf("Parse(%q): %q %d %v", lines, text.Text(made), line, e)
		}
	})
}

// refusesLine: the line is refused, whatever sound lines are ahead of it and behind it.
func refusesLine(t *testing.T, line string, want api.Errno) {
	t.Helper()
	refuses(t, line, 0, want)
	refuses(t, line+"\n", 0, want)
	refuses(t, "\n"+line, 1, want)
	refuses(t, "# a\n\n#\n"+line+"\n#", 3, want)
	refuses(t, line+"\n"+wholeText, 0, want)
	refuses(t, wholeText+line, 8, want)
	refuses(t, "pod zz - 0 - - - - - - real\n\n"+line+"\nnode zz - - - up\n", 2, want)
}

func TestP1001ParseRefusesAnotherWord(t *testing.T) {
	for _, line := range []string{
		"x", "x y", "a - - - up", "Node z - - - up", "NODE z - - - up", "nod z - - - up", "nodes z - - - up", "node: z - - - up", "node\tz - - - up", "\tnode z - - - up", "-", "- node z - - - up",
		"pods z - 0 - - - - - - real", "Pod z - 0 - - - - - - real", "po z - 0 - - - - - - real", "budgets z - 0", "Budget z - 0", "budge z - 0", "bud z - 0",
		"cluster", "nodepod", "state z", "\xff", "\x00node z - - - up", "\ufeffnode z - - - up",
		// a blank ahead is an empty word, also of a remark
		" ", "  ", " node z - - - up", " pod z - 0 - - - - - - real", " budget z - 0", " #", " # z", "\t", "\r", "\r# z",
		// none behind it
		"node", "pod", "budget", "node ", "pod ", "budget ",
	} {
		refusesLine(t, line, api.ErrForm)
	}
}

func TestP1001ParseTellsTheErrorsOfNodes(t *testing.T) {
	for want, lines := range map[api.Errno][]string{
		api.ErrForm:  {"node z", "node z - - up", "node z - - - Up", "node z - - - up ", "node  z - - - up", "node z - - - up up", "node z - - - up\r", "node z x - - up", "node z - x - up", "node z - - x up", "node z x=01 - - up", "node z - 0", "node z - 0 - - - - - - real"},
		api.ErrName:  {"node Z - - - up", "node - - - - up", "node  - - - up", "node abcdefghijklm - - - up", "node z X=1 - - up", "node z - k:V - up", "node z - - :v up", "node #z - - - up"},
		api.ErrArg:   {"node z x=0 - - up"},
		api.ErrOver:  {"node z x=9223372036854775808 - - up"},
		api.ErrOrder: {"node z y=1,x=1 - - up", "node z x=1,x=1 - - up", "node z - k:v,k:v - up"},
		api.ErrTwice: {"node z - - k:v,k:v! up"},
		api.ErrLong:  {"node z a=1,b=1,c=1,d=1,e=1,f=1,g=1,h=1,i=1 - - up", "node z - - " + strings.Repeat("k:v,", 8) + "k:v up"},
	} {
		for _, line := range lines {
			refusesLine(t, line, want)
		}
	}
}

func TestP1001ParseTellsTheErrorsOfPods(t *testing.T) {
	for want, lines := range map[api.Errno][]string{
		api.ErrForm:  {"pod z", "pod z - 0 - - - - - real", "pod z - 0 - - - - - - hole", "pod z - 00 - - - - - - real", "pod z - -2 - - - - - - real", "pod  z - 0 - - - - - - real", "pod z - 0 - - - - - - real ", "pod z - 0 - - - - - - real\r", "pod z - 0 - - - - x - real", "pod z - 0 - - - a:b:c - - real", "pod z - - - up"},
		api.ErrName:  {"pod Z - 0 - - - - - - real", "pod - - 0 - - - - - - real", "pod z Z 0 - - - - - - real", "pod z - 0 - - - - - Z real", "pod z - 0 - - - - Z/1 - real", "pod z - 0 - - K - - - real"},
		api.ErrArg:   {"pod z - 0 x=0 - - - - - real", "pod z - 1000001 - - - - - - real", "pod z - -1 - - - - - - real", "pod z - 0 - - - - - - hold", "pod z - 0 - - - - k/0 - real", "pod z - 0 - - - - k/129 - real"},
		api.ErrOver:  {"pod z - 0 x=9223372036854775808 - - - - - real"},
		api.ErrOrder: {"pod z - 0 y=1,x=1 - - - - - real", "pod z - 0 - k:v,j:v - - - - real"},
		api.ErrLong:  {"pod z - 0 - - a,b,c,d,e,f,g,h,i - - - real"},
	} {
		for _, line := range lines {
			refusesLine(t, line, want)
		}
	}
}

func TestP1001ParseTellsTheErrorsOfBudgets(t *testing.T) {
	for want, lines := range map[api.Errno][]string{
		api.ErrForm: {"budget z", "budget z -", "budget z - -1", "budget z - 01", "budget z - 2147483648", "budget  z - 0", "budget z - 0 ", "budget z - 0\r", "budget z a:b:c 0", "budget z - - - up"},
		api.ErrName: {"budget Z - 0", "budget - - 0", "budget z K 0", "budget  - 0"},
		api.ErrArg:  {"budget z - 129", "budget z - 2147483647"},
		api.ErrLong: {"budget z a,b,c,d,e,f,g,h,i 0"},
	} {
		for _, line := range lines {
			refusesLine(t, line, want)
		}
	}
}

func TestP1001ParseRefusesOneTwice(t *testing.T) {
	for line, others := range map[string][]string{
		"node z - - - up":               {"node z - - - up", "node z x=1 - - up", "node z - - - cordon"},
		"pod z - 0 - - - - - - real":    {"pod z - 0 - - - - - - real", "pod z - -1 - - - - - - hold", "pod z a 5 x=1 - - - - nowhere real"},
		"budget z - 0":                  {"budget z - 0", "budget z - 1", "budget z k 0"},
		"pod z - -1 - - - - - - hold":   {"pod z - 0 - - - - - - real"},
		"node z x=1 - - cordon":         {"node z - - - up"},
		"pod z - 0 - - - - - none real": {"pod z - 0 - - - - - - real"},
	} {
		for _, other := range others {
			refuses(t, line+"\n"+other, 1, api.ErrTwice)
			refuses(t, line+"\n"+other+"\n", 1, api.ErrTwice)
			refuses(t, "#\n"+line+"\n\n# z\n"+other+"\n#\n", 4, api.ErrTwice)
			refuses(t, line+"\n"+wholeText+other, 9, api.ErrTwice)
			refuses(t, wholeText+line+"\n"+other, 9, api.ErrTwice)
			refuses(t, line+"\n"+other+"\n"+other, 1, api.ErrTwice)
		}
	}
	for i, line := range slices.Collect(strings.Lines(wholeText)) {
		refuses(t, wholeText+line, 8, api.ErrTwice)
		refuses(t, line+wholeText, 1+i, api.ErrTwice)
	}
}

// One name of each kind is none twice; nor is one that only begins so.
func TestP1001ParseTakesOneNameOfEachKind(t *testing.T) {
	reads(t, "budget a - 0\npod a - 0 - - - - - - real\nnode a - - - up", state.State{Nodes: []node.Node{{Name: "a"}}, Pods: []pod.Pod{{Name: "a"}}, Budgets: []budget.Budget{{Name: "a"}}})
	reads(t, "node aa - - - up\nnode a - - - up", state.State{Nodes: []node.Node{{Name: "a"}, {Name: "aa"}}})
}

// kind is one of the three: its limit, and a line of one so named.
type kind struct {
	most int
	line func(name string) string
}

func kinds() []kind {
	return []kind{
		{api.MaxNodes, func(name string) string { return "node " + name + " - - - up\n" }},
		{api.MaxPods, func(name string) string { return "pod " + name + " - 0 - - - - - - real\n" }},
		{api.MaxList, func(name string) string { return "budget " + name + " - 0\n" }},
	}
}

// lines: that many of a kind, their names rising.
func (k kind) lines(count int) []string {
	var l []string
	for i := range count {
		l = append(l, k.line("x"+strconv.Itoa(1000+i)))
	}
	return l
}

func joined(lines ...[]string) string { return strings.Join(slices.Concat(lines...), "") }

func TestP1001ParseRefusesTooMany(t *testing.T) {
	for _, k := range kinds() {
		full := k.lines(k.most)
		if made, line, e := text.Parse(joined(full)); e != api.OK || line != 0 || text.Text(made) != joined(full) {
			t.Errorf("%d: %d %v", k.most, line, e)
		}
		backward := slices.Clone(full)
		slices.Reverse(backward)
		for _, l := range [][]string{full, backward} {
			// in front of all names, among them, behind them
			for _, name := range []string{"a", "x1000a", "z"} {
				one := []string{k.line(name)}
				refuses(t, joined(l, one), k.most, api.ErrLong)
				refuses(t, joined(one, l), k.most, api.ErrLong)
				refuses(t, joined([]string{"#\n", "\n"}, l, []string{"\n", "# a\n"}, one, l), k.most+4, api.ErrLong)
				refuses(t, joined(l[:3], one, l[3:], one), k.most, api.ErrLong)
			}
		}
		// of the line that is one too many, its form and its name are asked for first
		refuses(t, joined(full, full[:1]), k.most, api.ErrTwice)
		refuses(t, joined(full, full[k.most-1:]), k.most, api.ErrTwice)
		refuses(t, joined(full, []string{"x\n"}), k.most, api.ErrForm)
		refuses(t, joined(full, []string{k.line("Z")}), k.most, api.ErrName)
		refuses(t, joined(full, []string{k.line("z"), full[0]}), k.most, api.ErrLong)
	}
}

// Each kind has its own limit.
func TestP1001ParseTakesTheMostOfAll(t *testing.T) {
	l := kinds()
	full := [][]string{l[0].lines(api.MaxNodes), l[1].lines(api.MaxPods), l[2].lines(api.MaxList)}
	made, line, e := text.Parse(joined(full[2], full[1], full[0]))
	if e != api.OK || line != 0 || text.Text(made) != joined(full...) {
		t.Errorf("%d %v", line, e)
	}
	for _, k := range l {
		refuses(t, joined(full...)+k.line("a"), api.MaxNodes+api.MaxPods+api.MaxList, api.ErrLong)
	}
}

// wrongLines: lines none of which may stand behind wholeText.
func wrongLines() map[string]api.Errno {
	return map[string]api.Errno{
		"x":                           api.ErrForm,
		" node z - - - up":            api.ErrForm,
		"node a - - - down":           api.ErrForm,
		"node Z - - - up":             api.ErrName,
		"node a x=0 - - up":           api.ErrArg,
		"node a - - - up":             api.ErrTwice,
		"pod a - 0 - - - - - k real":  api.ErrTwice,
		"pod z - -1 - - - - - - real": api.ErrArg,
		"pod z - 0 x=99999999999999999999 - - - - - real": api.ErrOver,
		"pod a - 0 y=1,x=1 - - - - - real":                api.ErrOrder,
		"budget a - 0":                                    api.ErrTwice,
		"budget z - 129":                                  api.ErrArg,
		"budget z a,b,c,d,e,f,g,h,i 0":                    api.ErrLong,
	}
}

// Of several lines that are wrong the first one is told, whatever is wrong with it; ahead of what is wrong with the cluster.
func TestP1001ParseTellsTheFirstLine(t *testing.T) {
	for first, want := range wrongLines() {
		for second := range wrongLines() {
			refuses(t, wholeText+first+"\n"+second, 8, want)
			refuses(t, wholeText+"\n# a\n"+first+"\n\n"+second+"\n", 10, want)
		}
		for _, c := range unsoundTexts() {
			refuses(t, wholeText+c.text+first, 8+strings.Count(c.text, "\n"), want)
			refuses(t, wholeText+first+"\n"+c.text, 8, want)
		}
	}
}

// unsound: each line may stand, but not all together; with wholeText neither.
type unsound struct {
	text string
	want api.Errno
}

const greatest = "9223372036854775807"

func unsoundTexts() []unsound {
	return []unsound{
		{"pod t - 0 - - - - - z real\n", api.ErrName},
		{"node m - - - up\npod t - 0 - - - - - mm real\npod u - 0 - - - - - m real\n", api.ErrName},
		{"node m x=" + greatest + " - - up\npod t - 0 x=" + greatest + " - - - - m real\npod u - -1 x=1 - - - - m hold\n", api.ErrOver},
		{"node m a=9 - - up\npod t - 0 a=1,b=1,c=1,d=1 - - - - m real\npod u - 0 e=1,f=1,g=1,h=1,i=1 - - - - m real\n", api.ErrLong},
		{"node m x=1 - - up\npod t - 0 x=2 - - - - m real\n", api.ErrRoom},
		{"node m - - - up\npod t - -1 x=1 - - - - m hold\n", api.ErrRoom},
		{"node m x=2 - - cordon\npod t - 0 x=1 - - - - m real\npod u - 0 x=1 - - - - m real\npod v - 0 x=1 - - - - m real\n", api.ErrRoom},
		{"node m x=" + greatest + " - - up\nnode n x=1 - - up\n", api.ErrOver},
		{"node m a=1,b=1,c=1,d=1 - - up\nnode n e=1,f=1,g=1,h=1,i=1 - - up\n", api.ErrLong},
		// several: the one that state.Check has first
		{"node m x=1 - - up\npod t - 0 x=2 - - - - m real\npod u - 0 - - - - - z real\n", api.ErrName},
		{"node m x=1 - - up\nnode n x=" + greatest + " - - up\npod t - 0 x=2 - - - - m real\n", api.ErrRoom},
	}
}

// The line is how many there are: the empty ones and the remarks too, whether the last one has its end or not.
func TestP1001ParseTellsAnUnsoundClusterBehindAll(t *testing.T) {
	for _, c := range unsoundTexts() {
		lines := strings.Count(c.text, "\n")
		refuses(t, c.text, lines, c.want)
		refuses(t, strings.TrimSuffix(c.text, "\n"), lines, c.want)
		refuses(t, c.text+"\n", lines+1, c.want)
		refuses(t, c.text+"\n\n", lines+2, c.want)
		refuses(t, c.text+"#", lines+1, c.want)
		refuses(t, c.text+"# a\n", lines+1, c.want)
		refuses(t, "#\n\n"+c.text, lines+2, c.want)
		refuses(t, "\n"+c.text+"\n# a", lines+3, c.want)
		refuses(t, strings.ReplaceAll(c.text, "\n", "\n#\n"), 2*lines, c.want)
		refuses(t, c.text+"budget z - 0", lines+1, c.want)
		refuses(t, c.text+wholeText, lines+8, c.want)
		// it is the sorted cluster that is asked
		backward := slices.Collect(strings.Lines(c.text))
		slices.Reverse(backward)
		refuses(t, joined(backward), lines, c.want)
	}
}

// few: five lines of things, of which several may be sound together or not (each pod is on the node of its name), and three others.
func few() []string {
	return []string{"node a - - - up", "node b - - - up", "pod a - 0 - - - - - a real", "pod b - 0 - - - - - b real", "budget a - 0", "", "# a", "x"}
}

// asked tells what is wrong with some of the few lines: the first one that may not stand, or, behind all, a pod without its node.
func asked(lines []string) (int, api.Errno) {
	things := few()[:5]
	for i, line := range lines {
		if line == "x" {
			return i, api.ErrForm
		}
		if slices.Contains(things, line) && slices.Contains(lines[:i], line) {
			return i, api.ErrTwice
		}
	}
	for i, node := range things[:2] {
		if slices.Contains(lines, things[2+i]) && !slices.Contains(lines, node) {
			return len(lines), api.ErrName
		}
	}
	return 0, api.OK
}

// All texts of up to five of the few lines.
func TestP1001ParseOfFewLines(t *testing.T) {
	for places := range trial.Texts("01234567", 5) {
		var lines []string
		for i := range places {
			lines = append(lines, few()[places[i]-'0'])
		}
		at, want := asked(lines)
		s := strings.Join(lines, "\n") + "\n"
		made, line, e := text.Parse(s)
		if line != at || e != want || e != api.OK && !state.Same(made, state.State{}) {
			t.Fatalf("Parse(%q): %d %v; want %d %v", s, line, e, at, want)
		}
		if e == api.OK && text.Text(made) != sortedText(lines) {
			t.Fatalf("Parse(%q): %q", s, text.Text(made))
		}
	}
}

// sortedText: those of the few lines that are of a kind, as Text has them.
func sortedText(lines []string) string {
	var b strings.Builder
	for _, line := range few()[:5] {
		if slices.Contains(lines, line) {
			b.WriteString(line + "\n")
		}
	}
	return b.String()
}

// dice are numbers that look as if thrown, the same ones each time.
type dice uint64

func (d *dice) below(n int) int {
	*d = *d*6364136223846793005 + 1442695040888963407
	return int(uint64(*d) >> 33 % uint64(n))
}

func (d *dice) one(words ...string) string { return words[d.below(len(words))] }

// cluster is a sound one: all its pods would have room on each node.
func (d *dice) cluster(nodes, pods, budgets int) string {
	var b strings.Builder
	var names []string
	for i := range nodes {
		names = append(names, "n"+strconv.Itoa(100+i))
		b.WriteString("node " + names[i] + d.one(" cpu=9000,mem=9000", " cpu=1000,gpu=1,mem=1000") + d.one(" -", " zone:a", " disk:fast,zone:b") + d.one(" -", " old:yes", " gpu:yes!,old:no,old:yes!") + d.one(" up", " cordon") + "\n")
	}
	for i := range pods {
		b.WriteString("pod p" + strconv.Itoa(1000+i) + d.podWords(append(names, "-")) + "\n")
	}
	for i := range budgets {
		b.WriteString("budget b" + strconv.Itoa(i) + d.one(" -", " app:web", " app!db,-tier,app") + d.one(" 0", " 1", " 128") + "\n")
	}
	return b.String()
}

// podWords: all of a pod but its name.
func (d *dice) podWords(places []string) string {
	words := d.one(" -", " cpu=1", " cpu=2,mem=3") + d.one(" -", " app:web", " app:db,tier:back") + d.one(" -", " zone:a", " zone!b,-gpu,disk") + d.one(" -", " *", " *:yes,gpu", " old:yes") + d.one(" -", " zone/1", " zone/128") + " " + d.one(places...)
	owner := d.one(" -", " web", " 0")
	if d.below(3) == 0 {
		return owner + " -1" + words + " hold"
	}
	return owner + d.one(" 0", " 7", " 1000000") + words + " real"
}

// back: what Text tells of the cluster is read again as it was.
func back(t *testing.T, s state.State) {
	t.Helper()
	if e := state.Check(s); e != api.OK {
		t.Fatalf("Check(%.600q): %v", text.Text(s), e)
	}
	reads(t, text.Text(s), s)
}

func TestP1002WhatTextTellsIsReadAgain(t *testing.T) {
	for _, s := range ordinary() {
		back(t, s)
	}
	var d dice
	for range 300 {
		told := d.cluster(d.below(api.MaxNodes+1), d.below(api.MaxPods+1), d.below(api.MaxList+1))
		made, line, e := text.Parse(told)
		if e != api.OK {
			t.Fatalf("Parse(%q): %d %v", told, line, e)
		}
		back(t, made)
		if text.Text(made) != told {
			t.Errorf("%q; want %q", text.Text(made), told)
		}
	}
}

// Also what the calls of state make of a cluster, and one at all limits.
func TestP1002OfWhatIsMade(t *testing.T) {
	s := whole()
	back(t, state.Move(s, "a", ""))
	back(t, state.Move(s, "q", ""))
	back(t, state.Drop(s, "q"))
	back(t, state.Put(s, pod.Pod{Name: "0", Prio: -1, Hold: true, Node: "c"}))
	back(t, state.Put(s, pod.Pod{Name: "a", Tols: []taint.Tol{{Val: "v"}, {Any: true}, {Key: "k", Any: true}}}))
	var d dice
	made, _, _ := text.Parse(d.cluster(api.MaxNodes, api.MaxPods, api.MaxList))
	if len(made.Nodes) != api.MaxNodes || len(made.Pods) != api.MaxPods || len(made.Budgets) != api.MaxList {
		t.Fatal("not at all limits")
	}
	back(t, made)
}

func TestP1002OfLimits(t *testing.T) {
	const long = "abcdefghijkl"
	names := []string{"0", "9", "a", long, "b", "c", "d", "e"}
	n, p := node.Node{Name: long}, pod.Pod{Name: long, Owner: long, Prio: api.MaxPrio, Key: long, Most: api.MaxPods, Node: long}
	b := budget.Budget{Name: long, Floor: api.MaxPods}
	for _, name := range names {
		n.Cap, n.Labels = append(n.Cap, res.Amount{Name: name, N: 1<<63 - 1}), append(n.Labels, label.Pair{Key: name, Val: long})
		n.Taints = append(n.Taints, taint.Taint{Key: long, Val: name, Hard: true})
		p.Need, p.Labels = append(p.Need, res.Amount{Name: name, N: 1<<63 - 1}), append(p.Labels, label.Pair{Key: name, Val: long})
		p.Sel, p.Tols = append(p.Sel, label.Term{Op: label.Not, Key: long, Val: long}), append(p.Tols, taint.Tol{Key: name, Val: long})
		b.Sel = append(b.Sel, label.Term{Op: label.Lacks, Key: long})
	}
	back(t, state.State{Nodes: []node.Node{n}, Pods: []pod.Pod{p}, Budgets: []budget.Budget{b}})
}

// allListsText: each list of each thing has just one item.
const allListsText = `node a cpu=10 disk:fast gpu:yes up
node b cpu=10 disk:fast gpu:yes up
pod a - 0 cpu=1 app:web disk gpu - a real
pod b - 0 cpu=1 app:web disk gpu - b real
budget a app:web 0
budget b app:web 0
`

func parsed(t *testing.T, s string) state.State {
	t.Helper()
	made, line, e := text.Parse(s)
	if e != api.OK {
		t.Fatalf("Parse(%q): %d %v", s, line, e)
	}
	return made
}

// spoilers overwrite a list of the cluster each, its spare room too; the three rows themselves are the last ones.
func spoilers(s state.State) []func() {
	var l []func()
	for _, n := range s.Nodes {
		l = append(l,
			func() { trial.Overwrite(n.Cap, res.Amount{Name: "mine", N: 7}) },
			func() { trial.Overwrite(n.Labels, label.Pair{Key: "mine", Val: "x"}) },
			func() { trial.Overwrite(n.Taints, taint.Taint{Key: "mine", Val: "x"}) })
	}
	for _, p := range s.Pods {
		l = append(l,
			func() { trial.Overwrite(p.Need, res.Amount{Name: "mine", N: 7}) },
			func() { trial.Overwrite(p.Labels, label.Pair{Key: "mine", Val: "x"}) },
			func() { trial.Overwrite(p.Sel, label.Term{Op: label.Has, Key: "mine"}) },
			func() { trial.Overwrite(p.Tols, taint.Tol{Key: "mine", Val: "x"}) })
	}
	for _, b := range s.Budgets {
		l = append(l, func() { trial.Overwrite(b.Sel, label.Term{Op: label.Has, Key: "mine"}) })
	}
	return append(l,
		func() { trial.Overwrite(s.Nodes, node.Node{Name: "mine"}) },
		func() { trial.Overwrite(s.Pods, pod.Pod{Name: "mine"}) },
		func() { trial.Overwrite(s.Budgets, budget.Budget{Name: "mine"}) })
}

// unlikeWords: in how many places two texts of as many words differ.
func unlikeWords(a, b string) int {
	words, count := strings.Fields(b), 0
	for i, word := range strings.Fields(a) {
		if word != words[i] {
			count++
		}
	}
	return count
}

func TestP2ListsOfOneAnswerShareNothing(t *testing.T) {
	const rows = 3
	for i := range len(spoilers(parsed(t, allListsText))) - rows {
		made := parsed(t, allListsText)
		spoilers(made)[i]()
		if told := text.Text(made); unlikeWords(told, allListsText) != 1 {
			t.Errorf("list %d: %q became %q", i, allListsText, told)
		}
	}
}

func TestP2AnswersNewMemory(t *testing.T) {
	for _, s := range []string{allListsText, wholeText} {
		first, second := parsed(t, s), parsed(t, s)
		for _, spoil := range spoilers(first) {
			spoil()
		}
		if told := text.Text(second); told != s {
			t.Errorf("%q became %q", s, told)
		}
		reads(t, s, second)
	}
}

// The text that was handed in is not kept: the memory that it was in may become something else.
func TestP2ParseKeepsNoPieceOfTheText(t *testing.T) {
	signs := []byte(wholeText)
	made := parsed(t, unsafe.String(&signs[0], len(signs)))
	for i := range signs {
		signs[i] = 'x'
	}
	if !state.Same(made, whole()) {
		t.Errorf("%q", text.Text(made))
	}
}

// resize makes all lists longer (within their memory) or shorter.
func resize(s *state.State, by int) {
	for i := range s.Nodes[:max(len(s.Nodes), len(s.Nodes)+by)] {
		n := &s.Nodes[:cap(s.Nodes)][i]
		n.Cap, n.Labels, n.Taints = n.Cap[:len(n.Cap)+by], n.Labels[:len(n.Labels)+by], n.Taints[:len(n.Taints)+by]
	}
	for i := range s.Pods[:max(len(s.Pods), len(s.Pods)+by)] {
		p := &s.Pods[:cap(s.Pods)][i]
		p.Need, p.Labels, p.Sel, p.Tols = p.Need[:len(p.Need)+by], p.Labels[:len(p.Labels)+by], p.Sel[:len(p.Sel)+by], p.Tols[:len(p.Tols)+by]
	}
	for i := range s.Budgets[:max(len(s.Budgets), len(s.Budgets)+by)] {
		b := &s.Budgets[:cap(s.Budgets)][i]
		b.Sel = b.Sel[:len(b.Sel)+by]
	}
	s.Nodes, s.Pods, s.Budgets = s.Nodes[:len(s.Nodes)+by], s.Pods[:len(s.Pods)+by], s.Budgets[:len(s.Budgets)+by]
}

// What is handed in stays as it was, all its lists and their spare room too; what Text tells of it does not hang on that room.
func TestP2TextChangesNothing(t *testing.T) {
	s := parsed(t, allListsText)
	resize(&s, -1)
	if told := text.Text(s); told != "node a - - - up\npod a - 0 - - - - - a real\nbudget a - 0\n" {
		t.Errorf("%q", told)
	}
	resize(&s, 1)
	if told := text.Text(s); told != allListsText {
		t.Errorf("%q became %q", allListsText, told)
	}
}

// What was refused, or told, leaves nothing behind.
func TestP3SameCallsAnswerTheSame(t *testing.T) {
	s := whole()
	for range 3 {
		refuses(t, "x", 0, api.ErrForm)
		reads(t, wholeText, whole())
		refuses(t, wholeText+wholeText, 8, api.ErrTwice)
		reads(t, "", state.State{})
		refuses(t, "\npod p - 0 - - - - - z real", 2, api.ErrName)
		if text.Text(s) != wholeText || text.Text(state.State{}) != "" {
			t.Errorf("%q", text.Text(s))
		}
	}
}

// Whatever plain data is given, no call goes out by a panic, also where state.Check refuses what Text is handed.
func TestP1EveryCallEnds(t *testing.T) {
	wild := pod.Pod{Name: "\xff\n", Prio: -1 << 63, Need: make(res.Vec, 1000), Labels: make(label.Set, 1000), Sel: make(label.Sel, 1000), Tols: make([]taint.Tol, 1000), Key: "\n", Most: -1 << 63, Node: "\x00", Hold: true}
	for _, s := range []state.State{
		{Nodes: []node.Node{{}}, Pods: []pod.Pod{{}}, Budgets: []budget.Budget{{}}},
		{Nodes: []node.Node{{Name: "\nnode a - - - up\n", Cap: make(res.Vec, 1000), Labels: make(label.Set, 1000), Taints: make([]taint.Taint, 1000)}}, Pods: []pod.Pod{wild, wild}, Budgets: []budget.Budget{{Name: "\n", Sel: label.Sel{{Op: -7}}, Floor: -1 << 63}}},
		{Nodes: make([]node.Node, 10000), Pods: make([]pod.Pod, 10000), Budgets: make([]budget.Budget, 10000)},
	} {
		text.Parse(text.Text(s))
	}
	for _, s := range []string{"\x00", "\xff\xfe", "\r\n\r\n", strings.Repeat("\n", 1<<20), strings.Repeat("#", 1<<20), strings.Repeat("#\n", 1<<20) + "#", strings.Repeat(" ", 1<<20), "node " + strings.Repeat(" ", 1<<20), "pod " + strings.Repeat("a", 1<<20), "budget a " + strings.Repeat(",", 1<<20) + " 0", strings.Repeat("node ", 1<<18)} {
		text.Parse(s)
	}
	refuses(t, strings.Repeat("\n", 1<<20)+"x", 1<<20, api.ErrForm)
	refuses(t, strings.Repeat("#\n", 1<<20)+"pod p - 0 - - - - - z real\n", 1<<20+1, api.ErrName)
}
