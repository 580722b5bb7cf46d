package taint_test

import (
	"regexp"
	"slices"
	"strings"
	"testing"

	"ballast/api"
	"ballast/taint"
	"ballast/trial"
)

const longest = "abcdefghijkl"

func hard(key, val string) taint.Taint { return taint.Taint{Key: key, Val: val, Hard: true} }

func soft(key, val string) taint.Taint { return taint.Taint{Key: key, Val: val} }

func tol(key, val string) taint.Tol { return taint.Tol{Key: key, Val: val} }

func anyOf(key string) taint.Tol { return taint.Tol{Key: key, Any: true} }

// taints: that many of one Key, hard and soft ones in turn.
func taints(count int) []taint.Taint {
	var l []taint.Taint
	for i := range count {
		l = append(l, taint.Taint{Key: "k", Val: "v" + string(rune('a'+i)), Hard: i%2 == 0})
	}
	return l
}

// tols: that many, with and without a Key, with and without Any in turn.
func tols(count int) []taint.Tol {
	kinds := []taint.Tol{tol("k", "v"), anyOf("k"), tol("", "v"), anyOf("")}
	var l []taint.Tol
	for i := range count {
		l = append(l, kinds[i%len(kinds)])
	}
	return l
}

// wholeText: a list's text of that part so often.
func wholeText(part string, count int) string {
	return strings.TrimSuffix(strings.Repeat(part+",", count), ",")
}

func checks(t *testing.T, want api.Errno, lists ...[]taint.Taint) {
	t.Helper()
	for _, l := range lists {
		if e := taint.Check(l); e != want {
			t.Errorf("Check(%.200q): %v; want %v", taint.Text(l), e, want)
		}
	}
}

func checksTols(t *testing.T, want api.Errno, lists ...[]taint.Tol) {
	t.Helper()
	for _, l := range lists {
		if e := taint.CheckTols(l); e != want {
			t.Errorf("CheckTols(%+v): %v; want %v", l, e, want)
		}
	}
}

func TestP501Check(t *testing.T) {
	checks(t, api.OK,
		nil,
		[]taint.Taint{},
		[]taint.Taint{hard("a", "b")},
		[]taint.Taint{soft("a", "b")},
		[]taint.Taint{hard("0", "9"), soft(longest, longest)},
		// in any order
		[]taint.Taint{soft("b", "z"), hard("a", "z"), soft("c", "a"), hard("9", "0")},
		taints(7), taints(8))
	checks(t, api.ErrLong, taints(9), taints(20), taints(10000))
}

func TestP501CheckAsksForNames(t *testing.T) {
	for _, bad := range slices.Concat(trial.NotNames(), trial.Spaced(), []string{"", "-"}) {
		checks(t, api.ErrName,
			[]taint.Taint{hard(bad, "v")},
			[]taint.Taint{soft(bad, "v")},
			[]taint.Taint{hard("k", bad)},
			[]taint.Taint{soft("k", bad)},
			[]taint.Taint{hard(bad, bad)},
			append(taints(7), soft("z", bad)),
			append(taints(7), hard(bad, "v")))
	}
}

// One Key and Val is there once, be it hard or soft; one of both alone may be there again.
func TestP501CheckRefusesWhatIsThereTwice(t *testing.T) {
	for _, a := range []taint.Taint{hard("a", "x"), soft("a", "x")} {
		for _, b := range []taint.Taint{hard("a", "x"), soft("a", "x")} {
			checks(t, api.ErrTwice,
				[]taint.Taint{a, b},
				[]taint.Taint{a, soft("b", "x"), b},
				[]taint.Taint{a, soft("a", "y"), hard("b", "x"), b},
				[]taint.Taint{soft("a", "y"), a, b},
				slices.Concat([]taint.Taint{a}, taints(6), []taint.Taint{b}))
		}
		checks(t, api.OK,
			[]taint.Taint{a, soft("a", "y"), hard("b", "x")},
			[]taint.Taint{a, hard("x", "a"), soft("aa", "x"), soft("a", "xx"), hard("ax", "a")},
			[]taint.Taint{soft("ab", "c"), hard("a", "bc"), a})
	}
}

// Too many are told ahead of all, then the first Taint's error.
func TestP501CheckTellsTheFirstError(t *testing.T) {
	bad := []taint.Taint{hard("", ""), soft("a", "x"), soft("a", "x")}
	checks(t, api.ErrLong, make([]taint.Taint, 9), append(bad, taints(6)...), append(taints(8), soft("", "")), append(taints(8), taints(1)...))
	checks(t, api.ErrName, make([]taint.Taint, 8), append(bad, taints(5)...),
		[]taint.Taint{soft("a", "x"), soft("A", "x"), soft("a", "x")},
		[]taint.Taint{soft("A", "x"), soft("A", "x")},
		[]taint.Taint{soft("a", ""), soft("a", "")})
	checks(t, api.ErrTwice,
		[]taint.Taint{soft("a", "x"), hard("a", "x"), soft("A", "x")},
		[]taint.Taint{soft("a", "x"), hard("a", "x"), soft("a", "")})
}

func TestP501CheckTols(t *testing.T) {
	checksTols(t, api.OK,
		nil,
		[]taint.Tol{},
		[]taint.Tol{tol("a", "b")},
		[]taint.Tol{tol("", "b")},
		[]taint.Tol{anyOf("a")},
		[]taint.Tol{anyOf("")},
		[]taint.Tol{tol(longest, longest), tol("", longest), anyOf(longest), tol("0", "9")},
		// in any order, and there twice
		[]taint.Tol{tol("z", "y"), tol("a", "b"), anyOf("z"), tol("a", "b"), anyOf(""), anyOf("")},
		tols(7), tols(8))
	checksTols(t, api.ErrLong, tols(9), tols(20), tols(10000))
}

func TestP501CheckTolsAsksForNames(t *testing.T) {
	for _, bad := range slices.Concat(trial.NotNames(), trial.Spaced(), []string{"-"}) {
		checksTols(t, api.ErrName,
			[]taint.Tol{tol(bad, "v")},
			[]taint.Tol{anyOf(bad)},
			[]taint.Tol{tol("k", bad)},
			[]taint.Tol{tol("", bad)},
			[]taint.Tol{tol(bad, bad)},
			[]taint.Tol{{Key: "k", Val: bad, Any: true}},
			[]taint.Tol{{Val: bad, Any: true}},
			append(tols(7), tol("k", bad)),
			append(tols(7), anyOf(bad)))
	}
	// a Val is there, but of Any, and then not even one that is a Name
	checksTols(t, api.ErrName,
		[]taint.Tol{{}},
		[]taint.Tol{tol("k", "")},
		[]taint.Tol{{Key: "k", Val: "v", Any: true}},
		[]taint.Tol{{Val: "v", Any: true}},
		append(tols(7), taint.Tol{Key: "k", Val: "k", Any: true}))
}

func TestP501CheckTolsTellsTheFirstError(t *testing.T) {
	checksTols(t, api.ErrLong, make([]taint.Tol, 9), append(tols(8), tol("", "")), append([]taint.Tol{tol("A", "")}, tols(8)...))
	checksTols(t, api.ErrName, make([]taint.Tol, 8), append(tols(7), tol("", "")), append([]taint.Tol{tol("A", "")}, tols(7)...))
}

func TestP501BearsByOne(t *testing.T) {
	for _, c := range []struct {
		o    taint.Tol
		t    taint.Taint
		want bool
	}{
		{tol("a", "x"), soft("a", "x"), true},
		{tol("a", "x"), soft("a", "y"), false},
		{tol("a", "x"), soft("b", "x"), false},
		{tol("a", "x"), soft("x", "a"), false},
		{tol("a", "x"), soft("aa", "x"), false},
		{tol("a", "x"), soft("a", "xx"), false},
		{tol("aa", "x"), soft("a", "x"), false},
		{tol("a", "xx"), soft("a", "x"), false},
		{tol("", "x"), soft("a", "x"), true},
		{tol("", "x"), soft("b", "x"), true},
		{tol("", "x"), soft("a", "y"), false},
		{tol("", "x"), soft("x", "y"), false},
		{anyOf("a"), soft("a", "x"), true},
		{anyOf("a"), soft("a", "y"), true},
		{anyOf("a"), soft("b", "a"), false},
		{anyOf("a"), soft("aa", "x"), false},
		{anyOf(""), soft("a", "x"), true},
		{anyOf(""), soft("b", "y"), true},
	} {
		for _, isHard := range []bool{false, true} {
			c.t.Hard = isHard
			if taint.Bears([]taint.Tol{c.o}, c.t) != c.want {
				t.Errorf("Bears(%+v, %+v): %v", c.o, c.t, !c.want)
			}
		}
	}
}

// tolsOf and taintsOf read what the test writes.
func tolsOf(t *testing.T, text string) []taint.Tol {
	t.Helper()
	l, e := taint.ParseTols(text)
	if e != api.OK {
		t.Fatalf("ParseTols(%q): %v", text, e)
	}
	return l
}

func taintsOf(t *testing.T, text string) []taint.Taint {
	t.Helper()
	l, e := taint.Parse(text)
	if e != api.OK {
		t.Fatalf("Parse(%q): %v", text, e)
	}
	return l
}

// One Tol of the list is enough, wherever it stands; Key of one and Val of another are not.
func TestP501BearsBySome(t *testing.T) {
	for text, want := range map[string]bool{
		"-": false, "a:x": true, "b:x,a:x": true, "a:x,b:x": true, "a:y,b:x": false, "b,*:y": false, "b,*:x": true, "*:y,a": true,
		"b,c,d,e,f,g,h,a": true, "a,b,c,d,e,f,g,h": true, "b,c,d,e,f,g,h,i": false, "b,c,d,*,e,f,g,h": true,
	} {
		if taint.Bears(tolsOf(t, text), soft("a", "x")) != want {
			t.Errorf("Bears(%s, a:x): %v", text, !want)
		}
	}
	if taint.Bears(nil, hard("a", "x")) || taint.Bears([]taint.Tol{}, soft("a", "x")) {
		t.Error("no Tols bear a Taint")
	}
}

func TestP501WorstAndSoft(t *testing.T) {
	for _, c := range []struct {
		tols, taints string
		worst        taint.Taint
		soft         int
	}{
		{"-", "-", taint.Taint{}, 0},
		{"*", "-", taint.Taint{}, 0},
		{"-", "a:x!", hard("a", "x"), 0},
		{"-", "a:x", taint.Taint{}, 1},
		{"a:x", "a:x!", taint.Taint{}, 0},
		{"a:x", "a:x", taint.Taint{}, 0},
		{"-", "b:y!,a:x!", hard("b", "y"), 0},
		{"-", "a:x,b:y!,c:z!,d:w", hard("b", "y"), 2},
		{"b", "a:x,b:y!,c:z!,d:w", hard("c", "z"), 2},
		{"b,c,d", "a:x,b:y!,c:z!,d:w", taint.Taint{}, 1},
		{"*", "a:x,b:y!,c:z!,d:w", taint.Taint{}, 0},
		{"a:x", "a:x!,a:y!,a:z", hard("a", "y"), 1},
		{"a:x,a:y", "a:x!,a:y!,a:z", taint.Taint{}, 1},
		{"a", "a:x!,a:y!,a:z", taint.Taint{}, 0},
		{"*:x", "a:x!,b:x,c:y,d:y!", hard("d", "y"), 1},
		{"*:x,*:y", "a:x!,b:x,c:y,d:y!", taint.Taint{}, 0},
		{"-", "a:a,b:b,c:c,d:d,e:e,f:f,g:g,h:h", taint.Taint{}, 8},
		{"a,b,c,d,e,f,g", "a:a!,b:b!,c:c!,d:d!,e:e!,f:f!,g:g!,h:h!", hard("h", "h"), 0},
		{"a,b,c,d,e,f,g", "a:a,b:b,c:c,d:d,e:e,f:f,g:g,h:h", taint.Taint{}, 1},
	} {
		x, ok := taint.Worst(tolsOf(t, c.tols), taintsOf(t, c.taints))
		n := taint.Soft(tolsOf(t, c.tols), taintsOf(t, c.taints))
		if x != c.worst || ok != (c.worst != taint.Taint{}) || n != c.soft {
			t.Errorf("%s of %s: Worst %+v %v, Soft %d; want %+v, %d", c.taints, c.tols, x, ok, n, c.worst, c.soft)
		}
	}
}

func TestP501Text(t *testing.T) {
	for _, c := range []struct {
		l    []taint.Taint
		want string
	}{
		{nil, "-"},
		{[]taint.Taint{}, "-"},
		{[]taint.Taint{soft("a", "b")}, "a:b"},
		{[]taint.Taint{hard("a", "b")}, "a:b!"},
		{[]taint.Taint{hard("b", "x"), soft("a", "y"), soft("b", "z"), hard("a", "x")}, "b:x!,a:y,b:z,a:x!"},
		{[]taint.Taint{hard(longest, longest)}, longest + ":" + longest + "!"},
		{taints(8), "k:va!,k:vb,k:vc!,k:vd,k:ve!,k:vf,k:vg!,k:vh"},
	} {
		if text := taint.Text(c.l); text != c.want {
			t.Errorf("Text(%+v): %q; want %q", c.l, text, c.want)
		}
	}
}

func TestP501TolText(t *testing.T) {
	for _, c := range []struct {
		l    []taint.Tol
		want string
	}{
		{nil, "-"},
		{[]taint.Tol{}, "-"},
		{[]taint.Tol{tol("a", "b")}, "a:b"},
		{[]taint.Tol{anyOf("a")}, "a"},
		{[]taint.Tol{tol("", "b")}, "*:b"},
		{[]taint.Tol{anyOf("")}, "*"},
		{[]taint.Tol{anyOf("z"), tol("a", "b"), anyOf(""), tol("", "a"), tol("a", "b")}, "z,a:b,*,*:a,a:b"},
		{tols(8), "k:v,k,*:v,*,k:v,k,*:v,*"},
	} {
		if text := taint.TolText(c.l); text != c.want {
			t.Errorf("TolText(%+v): %q; want %q", c.l, text, c.want)
		}
	}
}

// checkParse: the text is read as that list, or refused with that error and nothing beside it.
func checkParse(t *testing.T, text string, want []taint.Taint, wantErr api.Errno) {
	t.Helper()
	l, e := taint.Parse(text)
	if e != wantErr || !slices.Equal(l, want) || e != api.OK && l != nil {
		t.Errorf("Parse(%.60q): %+v %v; want %+v %v", text, l, e, want, wantErr)
	}
}

func checkParseTols(t *testing.T, text string, want []taint.Tol, wantErr api.Errno) {
	t.Helper()
	l, e := taint.ParseTols(text)
	if e != wantErr || !slices.Equal(l, want) || e != api.OK && l != nil {
		t.Errorf("ParseTols(%.60q): %+v %v; want %+v %v", text, l, e, want, wantErr)
	}
}

func refused(t *testing.T, want api.Errno, texts ...string) {
	t.Helper()
	for _, text := range texts {
		checkParse(t, text, nil, want)
	}
}

func refusedTols(t *testing.T, want api.Errno, texts ...string) {
	t.Helper()
	for _, text := range texts {
		checkParseTols(t, text, nil, want)
	}
}

func TestP501ParseReadsWhatTextTells(t *testing.T) {
	checkParse(t, "-", nil, api.OK)
	checkParse(t, "ab:cd", []taint.Taint{soft("ab", "cd")}, api.OK)
	checkParse(t, "ab:cd!", []taint.Taint{hard("ab", "cd")}, api.OK)
	checkParse(t, "b:x!,a:y,b:z,a:x!", []taint.Taint{hard("b", "x"), soft("a", "y"), soft("b", "z"), hard("a", "x")}, api.OK)
	for _, l := range [][]taint.Taint{nil, {}, {hard(longest, longest)}, {soft(longest, longest)}, {soft("0", "0"), hard("0", "1")}, taints(7), taints(8)} {
		checkParse(t, taint.Text(l), l, api.OK)
	}
}

func TestP501ParseTolsReadsWhatTolTextTells(t *testing.T) {
	checkParseTols(t, "-", nil, api.OK)
	checkParseTols(t, "ab:cd", []taint.Tol{tol("ab", "cd")}, api.OK)
	checkParseTols(t, "ab", []taint.Tol{anyOf("ab")}, api.OK)
	checkParseTols(t, "*:cd", []taint.Tol{tol("", "cd")}, api.OK)
	checkParseTols(t, "*", []taint.Tol{anyOf("")}, api.OK)
	checkParseTols(t, "z,a:b,*,*:a,a:b,*", []taint.Tol{anyOf("z"), tol("a", "b"), anyOf(""), tol("", "a"), tol("a", "b"), anyOf("")}, api.OK)
	for _, l := range [][]taint.Tol{nil, {}, {tol(longest, longest), anyOf(longest), tol("", longest)}, tols(7), tols(8)} {
		checkParseTols(t, taint.TolText(l), l, api.OK)
	}
}

func TestP501ParseRefusesForms(t *testing.T) {
	refused(t, api.ErrForm,
		"", ",", ",,", "a:b,", ",a:b", "a:b,,c:d", "a:b!,", "-,a:b", "a:b,-", "-,-", "--", " -", "- ", "-!", "!", "!!",
		"a", "a!", "ab", "A", " ", "*", "a=b", "a!b", "a：b", "a:b,c", "a,b:c", "a:b,c!",
		"a:b:c", "a::b", "::", ":::", ":a:", "a:b:", ":a:b", "a:b:!", "a:b!:", "a:b!:c", "::!", "a:b,c:d:e", "a:b;c:d", "a:b c:d", strings.Repeat(":", 1000))
}

func TestP501ParseTolsRefusesForms(t *testing.T) {
	refusedTols(t, api.ErrForm,
		"", ",", ",,", "a,", ",a", "a,,b", "a:b,", ",*", "*,", "-,", ",-",
		"a:b:c", "a::b", "a::", "::", ":::", "*::", "*:a:", "a:b:", "a,b:c:d", "a:b c:d", strings.Repeat(":", 1000),
		":", ":a", ":*", ":!", ":a:", ":a:b", "a,:b", ":a,b", "*,:a", ":A")
}

func TestP501ParseRefusesWhatCheckRefuses(t *testing.T) {
	refused(t, api.ErrLong, taint.Text(taints(9)), wholeText("a:b", 9), wholeText("A:b", 9), wholeText(":", 9), wholeText(":!", 100000))
	refused(t, api.ErrName,
		":", ":!", "a:", "a:!", ":b", ":b!", "A:b", "a:B", "-:b", "a:-", "*:b", "*:b!", "a:*", "a :b", "a: b", " a:b", "a:b ", "a:b! ", "a:b\n", "a:b, c:d",
		"a!:b", "a!:b!", "!a:b", "!:b", "!:!", "a:b!!", "a:!!", "a:!b", "a:!b!", "a:b!c", "a:b!c!", "a:b! !",
		longest+"m:a", "a:"+longest+"m", "a:"+longest+"m!", "é:a", "a:\xff", wholeText(":", 8), "a:"+strings.Repeat("b", 1<<20))
	refused(t, api.ErrTwice, "a:x,a:x", "a:x!,a:x", "a:x,a:x!", "a:x!,a:x!", "a:x,b:x,a:y,a:x!", wholeText("a:b", 8), taint.Text(append(taints(7), hard("k", "va"))))
}

func TestP501ParseTolsRefusesWhatCheckTolsRefuses(t *testing.T) {
	refusedTols(t, api.ErrLong, taint.TolText(tols(9)), wholeText("a", 9), wholeText("*", 9), wholeText("A", 9), wholeText("a:", 9), wholeText("-", 100000))
	refusedTols(t, api.ErrName,
		"A", " a", "a ", " ", "a b", "a=b", "a\n", "é", "\xff", "a, b", "--", "-a", "a,-", "-,a", "-,-", "-:a", "a:-",
		"a:", "*:", "A:b", "a:B", "*:B", "**", "**:a", "*a", "a*", "*a:b", "a*:b", "a:*", "*:*",
		"!", "a!", "*!", "a:b!", "*:b!", "a!:b", "a:!",
		longest+"m", longest+"m:a", "a:"+longest+"m", "*:"+longest+"m", wholeText("a:", 8), strings.Repeat("a", 1<<20))
}

// The form of all parts is asked first, then what Check and CheckTols ask.
func TestP501ParseTellsTheFirstError(t *testing.T) {
	nine := taint.Text(taints(9))
	refused(t, api.ErrForm, "A:b,c", "a:,b", "a:x,a:x,", "a:x,a:x,b!", nine+",", nine+",a", "a,"+nine, nine+",a:b:c", wholeText("A:b", 1000)+",a", ":,"+nine+",-")
	refused(t, api.ErrLong, "A:b,"+nine, nine+",A:b", "a:x,a:x,"+nine)
	refused(t, api.ErrName, "a:x,A:x,a:x", "a:x,a:,a:x", "A:x,A:x")
	refused(t, api.ErrTwice, "a:x,a:x!,A:x", "a:x,a:x,a:", "a:x,a:x,a:x!!")
	nineTols := taint.TolText(tols(9))
	refusedTols(t, api.ErrForm, "A,:b", "a:,b:c:d", "-,", nineTols+",", nineTols+",:a", ":a,"+nineTols, nineTols+",a:b:c", wholeText("A", 1000)+",:")
	refusedTols(t, api.ErrLong, "A,"+nineTols, nineTols+",a:", nineTols+",-")
}

// alone: what is written into an answer, with its spare room, is told by no later one.
func alone[T comparable](t *testing.T, text string, mine T, parse func(string) ([]T, api.Errno)) {
	t.Helper()
	first, _ := parse(text)
	before := slices.Clone(first)
	room := first[:cap(first)]
	for i := range room {
		room[i] = mine
	}
	if again, _ := parse(text); !slices.Equal(again, before) || slices.Contains(again[:cap(again)], mine) {
		t.Errorf("%s: one list is answered twice", text)
	}
}

func TestP2AnswersAreNewMemory(t *testing.T) {
	for _, text := range []string{"-", "a:b", "a:b!,c:d,e:f", taint.Text(taints(8))} {
		alone(t, text, hard("mine", "mine"), taint.Parse)
	}
	for _, text := range []string{"-", "a", "*:b,c,d:e", taint.TolText(tols(8))} {
		alone(t, text, tol("mine", "mine"), taint.ParseTols)
	}
}

func TestP2NothingHandedInIsChanged(t *testing.T) {
	for _, wholeTaints := range [][]taint.Taint{taints(5), taints(12), {hard("b", "x"), soft("", ""), hard("a", "x"), soft("a", "x")}} {
		for _, wholeTols := range [][]taint.Tol{tols(5), tols(12), {anyOf("z"), tol("", ""), {Key: "*", Val: "x", Any: true}, tol("a", "x")}} {
			taintsBefore, tolsBefore := slices.Clone(wholeTaints), slices.Clone(wholeTols)
			// what is behind the list is spare room
			l, o := wholeTaints[:len(wholeTaints)-1], wholeTols[:len(wholeTols)-1]
			taint.Check(l)
			taint.CheckTols(o)
			taint.Bears(o, l[0])
			taint.Worst(o, l)
			taint.Soft(o, l)
			taint.Text(l)
			taint.TolText(o)
			if !slices.Equal(wholeTaints, taintsBefore) || !slices.Equal(wholeTols, tolsBefore) {
				t.Errorf("%+v and %+v became %+v and %+v", taintsBefore, tolsBefore, wholeTaints, wholeTols)
			}
		}
	}
}

func TestP3SameCallsAnswerTheSame(t *testing.T) {
	for range 3 {
		checkParse(t, "a:b,c", nil, api.ErrForm)
		checkParse(t, "a:b,c:d!", []taint.Taint{soft("a", "b"), hard("c", "d")}, api.OK)
		checkParse(t, "a:b,a:b!", nil, api.ErrTwice)
		checkParseTols(t, "a,:b", nil, api.ErrForm)
		checkParseTols(t, "a,*:b", []taint.Tol{anyOf("a"), tol("", "b")}, api.OK)
		checkParseTols(t, "a,A", nil, api.ErrName)
	}
}

// Whatever plain data is given, no call goes out by a panic, also where Check and CheckTols refuse what others are handed.
func TestP1EveryCallEnds(t *testing.T) {
	lists := [][]taint.Taint{nil, {}, {{}}, {hard("\xff", ",")}, {soft("b", ":"), hard("a", "!"), hard("a", "!"), soft("", "-")}, taints(100)}
	tolLists := [][]taint.Tol{nil, {}, {{}}, {tol("\xff", ","), {Key: ":", Val: "!", Any: true}, tol("*", ""), tol("-", "*")}, tols(100)}
	for _, l := range lists {
		taint.Check(l)
		taint.Parse(taint.Text(l))
		for _, o := range tolLists {
			taint.CheckTols(o)
			taint.ParseTols(taint.TolText(o))
			taint.Worst(o, l)
			taint.Soft(o, l)
			taint.Bears(o, taint.Taint{})
		}
	}
}

// Texts of the signs that matter, of up to six: each is read as it is written, or refused, with no panic.
func TestP501WhatIsReadIsToldJustSoWritten(t *testing.T) {
	for text := range trial.Texts("aB:!*-,", 6) {
		checkBack(t, text)
	}
}

func checkBack(t *testing.T, text string) {
	t.Helper()
	l, e := taint.Parse(text)
	if e != wantedOf(text, taintForm, taintError) || e == api.OK && (taint.Text(l) != text || taint.Check(l) != api.OK) {
		t.Errorf("Parse(%q): %+v %v", text, l, e)
	}
	o, e := taint.ParseTols(text)
	if e != wantedOf(text, tolForm, tolError) || e == api.OK && (taint.TolText(o) != text || taint.CheckTols(o) != api.OK) {
		t.Errorf("ParseTols(%q): %+v %v", text, o, e)
	}
}

// wantedOf: the error of a short text by the chapter's words.
func wantedOf(text string, form func(part string) bool, wrong func(ahead []string, part string) api.Errno) api.Errno {
	if text == "-" {
		return api.OK
	}
	l := strings.Split(text, ",")
	if slices.ContainsFunc(l, func(part string) bool { return part == "" || !form(part) }) {
		return api.ErrForm
	}
	for i, part := range l {
		if e := wrong(l[:i], part); e != api.OK {
			return e
		}
	}
	return api.OK
}

func taintForm(part string) bool { return strings.Count(part, ":") == 1 }

func tolForm(part string) bool { return part[0] != ':' && strings.Count(part, ":") < 2 }

// Of the few signs above just `a` may stand in a name.
var (
	isTaint = regexp.MustCompile(`^a+:a+!?$`).MatchString
	isTol   = regexp.MustCompile(`^(a+|\*)(:a+)?$`).MatchString
)

func taintError(ahead []string, part string) api.Errno {
	softly := strings.TrimSuffix(part, "!")
	switch {
	case !isTaint(part):
		return api.ErrName
	case slices.Contains(ahead, softly), slices.Contains(ahead, softly+"!"):
		return api.ErrTwice
	}
	return api.OK
}

func tolError(ahead []string, part string) api.Errno {
	if !isTol(part) {
		return api.ErrName
	}
	return api.OK
}
