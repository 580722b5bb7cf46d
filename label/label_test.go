package label_test

import (
	"math"
	"regexp"
	"slices"
	"strconv"
	"strings"
	"testing"

	"ballast/api"
	"ballast/label"
	"ballast/trial"
)

const longest = "abcdefghijkl"

// pairs: that many, with keys that rise from the one of first on.
func pairs(first, count int) label.Set {
	var s label.Set
	for i := range count {
		s = append(s, label.Pair{Key: "k" + string(rune('a'+first+i)), Val: "v"})
	}
	return s
}

// terms: that many, the kinds of Op in turn.
func terms(count int) label.Sel {
	var l label.Sel
	for i := range count {
		t := label.Term{Op: i%4 + 1, Key: "k" + string(rune('a'+i))}
		if t.Op == label.Is || t.Op == label.Not {
			t.Val = "v"
		}
		l = append(l, t)
	}
	return l
}

// wholeText: a selector's or a set's text of that part so often.
func wholeText(part string, count int) string {
	return strings.TrimSuffix(strings.Repeat(part+",", count), ",")
}

type setCase struct {
	s    label.Set
	want api.Errno
}

func checkSets(t *testing.T, l []setCase) {
	t.Helper()
	for _, c := range l {
		if e := label.Check(c.s); e != c.want {
			t.Errorf("Check(%q): %v; want %v", c.s, e, c.want)
		}
	}
}

func TestP401OpsHaveTheirNumbers(t *testing.T) {
	if l := []int{label.Is, label.Not, label.Has, label.Lacks}; !slices.Equal(l, []int{1, 2, 3, 4}) {
		t.Errorf("%v", l)
	}
}

func TestP401Check(t *testing.T) {
	checkSets(t, []setCase{
		{nil, api.OK},
		{label.Set{}, api.OK},
		{label.Set{{"a", "b"}}, api.OK},
		{label.Set{{longest, longest}}, api.OK},
		{label.Set{{"0", "9"}, {"9", "0"}, {"a", "z"}, {"aa", "a"}, {"b", "a"}}, api.OK},
		{label.Set{{"a", "v"}, {"b", "v"}}, api.OK},
		{label.Set{{"a", "z"}, {"b", "a"}}, api.OK},
		{pairs(0, 8), api.OK},
		{pairs(0, 9), api.ErrLong},
		{pairs(0, 20), api.ErrLong},
	})
	for _, bad := range slices.Concat(trial.NotNames(), trial.Spaced(), []string{"", "-"}) {
		checkSets(t, []setCase{
			{label.Set{{bad, "v"}}, api.ErrName},
			{label.Set{{"k", bad}}, api.ErrName},
			{label.Set{{bad, bad}}, api.ErrName},
			{append(pairs(0, 7), label.Pair{Key: "z", Val: bad}), api.ErrName},
			{append(pairs(0, 7), label.Pair{Key: bad, Val: "v"}), api.ErrName},
		})
	}
}

func TestP401CheckAsksForKeysThatRise(t *testing.T) {
	checkSets(t, []setCase{
		{label.Set{{"b", "v"}, {"a", "v"}}, api.ErrOrder},
		{label.Set{{"b", "a"}, {"a", "b"}}, api.ErrOrder},
		{label.Set{{"a", "v"}, {"a", "v"}}, api.ErrOrder},
		{label.Set{{"a", "v"}, {"a", "w"}}, api.ErrOrder},
		{label.Set{{"aa", "v"}, {"a", "v"}}, api.ErrOrder},
		{label.Set{{"a", "v"}, {"9", "v"}}, api.ErrOrder},
		{label.Set{{"10", "v"}, {"9", "v"}, {"10", "v"}}, api.ErrOrder},
		{label.Set{{"a", "v"}, {"c", "v"}, {"b", "v"}}, api.ErrOrder},
		{append(pairs(1, 7), pairs(0, 1)...), api.ErrOrder},
		{append(pairs(0, 7), pairs(6, 1)...), api.ErrOrder},
	})
}

// Too many are told ahead of all, then the first Pair's errors, a Pair's name ahead of its order.
func TestP401CheckTellsTheFirstError(t *testing.T) {
	worst := slices.Concat(label.Set{{"", ""}}, pairs(0, 8))
	checkSets(t, []setCase{
		{worst, api.ErrLong},
		{worst[:8], api.ErrName},
		{append(pairs(0, 8), label.Pair{}), api.ErrLong},
		{append(pairs(0, 8), pairs(0, 1)...), api.ErrLong},
		{make(label.Set, 9), api.ErrLong},
		{make(label.Set, 8), api.ErrName},
		{label.Set{{"b", "v"}, {"A", "v"}}, api.ErrName},
		{label.Set{{"b", "v"}, {"a", "V"}}, api.ErrName},
		{label.Set{{"b", "v"}, {"b", ""}}, api.ErrName},
		{label.Set{{"b", "v"}, {"a", "v"}, {"", "v"}}, api.ErrOrder},
		{label.Set{{"b", "v"}, {"a", "v"}, {"c", "V"}}, api.ErrOrder},
		{label.Set{{"b", "V"}, {"a", "v"}}, api.ErrName},
	})
}

type selCase struct {
	l    label.Sel
	want api.Errno
}

func checkSels(t *testing.T, l []selCase) {
	t.Helper()
	for _, c := range l {
		if e := label.CheckSel(c.l); e != c.want {
			t.Errorf("CheckSel(%+v): %v; want %v", c.l, e, c.want)
		}
	}
}

func TestP401CheckSel(t *testing.T) {
	checkSels(t, []selCase{
		{nil, api.OK},
		{label.Sel{}, api.OK},
		{label.Sel{{label.Is, "a", "b"}}, api.OK},
		{label.Sel{{label.Not, "a", "b"}}, api.OK},
		{label.Sel{{label.Has, "a", ""}}, api.OK},
		{label.Sel{{label.Lacks, "a", ""}}, api.OK},
		{label.Sel{{label.Is, longest, longest}, {label.Not, longest, longest}, {label.Has, longest, ""}, {label.Lacks, longest, ""}}, api.OK},
		// Terms need not rise, and may be there twice
		{label.Sel{{label.Lacks, "z", ""}, {label.Has, "b", ""}, {label.Has, "b", ""}, {label.Not, "a", "x"}, {label.Is, "a", "x"}, {label.Is, "a", "x"}}, api.OK},
		{terms(8), api.OK},
		{terms(9), api.ErrLong},
		{terms(20), api.ErrLong},
	})
}

func TestP401CheckSelAsksForOpsThatAre(t *testing.T) {
	for _, op := range []int{0, 5, -1, 6, 256 + label.Is, 1<<32 + label.Has, math.MaxInt, math.MinInt} {
		checkSels(t, []selCase{
			{label.Sel{{op, "a", "b"}}, api.ErrArg},
			{label.Sel{{op, "a", ""}}, api.ErrArg},
			{label.Sel{{op, "", ""}}, api.ErrArg},
			{label.Sel{{op, "A", "B"}}, api.ErrArg},
			{append(terms(7), label.Term{Op: op, Key: "a", Val: "b"}), api.ErrArg},
		})
	}
}

func TestP401CheckSelAsksForNames(t *testing.T) {
	for _, bad := range slices.Concat(trial.NotNames(), trial.Spaced(), []string{"", "-"}) {
		for _, op := range []int{label.Is, label.Not} {
			checkSels(t, []selCase{
				{label.Sel{{op, bad, "b"}}, api.ErrName},
				{label.Sel{{op, "a", bad}}, api.ErrName},
				{label.Sel{{op, bad, bad}}, api.ErrName},
				{append(terms(7), label.Term{Op: op, Key: "a", Val: bad}), api.ErrName},
			})
		}
		for _, op := range []int{label.Has, label.Lacks} {
			checkSels(t, []selCase{
				{label.Sel{{op, bad, ""}}, api.ErrName},
				{label.Sel{{op, bad, "b"}}, api.ErrName},
				{append(terms(7), label.Term{Op: op, Key: bad}), api.ErrName},
			})
			if bad != "" {
				checkSels(t, []selCase{{label.Sel{{op, "a", bad}}, api.ErrName}})
			}
		}
	}
	// a Has or Lacks has no Val, not one that is a Name either
	checkSels(t, []selCase{
		{label.Sel{{label.Has, "a", "b"}}, api.ErrName},
		{label.Sel{{label.Lacks, "a", "b"}}, api.ErrName},
		{append(terms(7), label.Term{Op: label.Lacks, Key: "a", Val: "a"}), api.ErrName},
	})
}

// Too many are told ahead of all, then the first Term's errors, a Term's Op ahead of its names.
func TestP401CheckSelTellsTheFirstError(t *testing.T) {
	worst := slices.Concat(label.Sel{{0, "", ""}}, terms(8))
	checkSels(t, []selCase{
		{worst, api.ErrLong},
		{worst[:8], api.ErrArg},
		{append(terms(8), label.Term{}), api.ErrLong},
		{append(terms(8), label.Term{Op: label.Is}), api.ErrLong},
		{make(label.Sel, 9), api.ErrLong},
		{make(label.Sel, 8), api.ErrArg},
		{label.Sel{{label.Is, "A", "b"}, {9, "a", "b"}}, api.ErrName},
		{label.Sel{{label.Has, "a", "b"}, {0, "a", ""}}, api.ErrName},
		{label.Sel{{9, "a", "b"}, {label.Is, "A", "b"}}, api.ErrArg},
	})
}

func TestP401Get(t *testing.T) {
	s := label.Set{{"a", "x"}, {"b", "y"}, {"c", "x"}}
	for _, c := range []struct {
		s    label.Set
		key  string
		want string
		ok   bool
	}{
		{s, "a", "x", true},
		{s, "b", "y", true},
		{s, "c", "x", true},
		{s, "d", "", false},
		{s, "", "", false},
		{s, "A", "", false},
		{s, "aa", "", false},
		{s, "x", "", false},
		{label.Set{{"aa", "x"}}, "a", "", false},
		{nil, "a", "", false},
		{label.Set{}, "", "", false},
		{pairs(0, 8), "kh", "v", true},
		{pairs(0, 8), "ki", "", false},
	} {
		if val, ok := label.Get(c.s, c.key); val != c.want || ok != c.ok {
			t.Errorf("Get(%q, %q): %q %v", c.s, c.key, val, ok)
		}
	}
}

func checkMatches(t *testing.T, s label.Set, l map[string]bool) {
	t.Helper()
	for text, want := range l {
		sel, e := label.ParseSel(text)
		if e != api.OK || label.Match(sel, s) != want {
			t.Errorf("Match(%s, %s): %v, %v", text, label.Text(s), !want, e)
		}
	}
}

func TestP401MatchOfOneTerm(t *testing.T) {
	s := label.Set{{"a", "x"}, {"b", "y"}}
	checkMatches(t, s, map[string]bool{
		"a:x": true, "b:y": true, "a:y": false, "b:x": false, "c:x": false, "x:a": false, "a:xx": false, "aa:x": false,
		"a!x": false, "b!y": false, "a!y": true, "b!x": true, "c!x": true, "x!a": true, "a!xx": true, "aa!x": true,
		"a": true, "b": true, "c": false, "x": false, "aa": false,
		"-a": false, "-b": false, "-c": true, "-x": true, "-aa": true,
	})
	checkMatches(t, nil, map[string]bool{"-": true, "a:x": false, "a!x": true, "a": false, "-a": true})
	checkMatches(t, label.Set{}, map[string]bool{"-": true, "a:x": false, "a!x": true, "a": false, "-a": true})
}

func TestP401MatchAsksForAllTerms(t *testing.T) {
	s := label.Set{{"a", "x"}, {"b", "y"}}
	checkMatches(t, s, map[string]bool{
		"-": true, "a:x,b:y": true, "b:y,a:x": true, "a:x,b:x": false, "b:x,a:x": false,
		"a,b,-c,a:x,b!x": true, "a,b,-c,a:x,b!y": false, "c,a": false, "a,c": false, "-a,b": false, "b,-a": false,
		"a:x,a:x": true, "a:x,a:y": false, "a:y,a:x": false, "a:x,a!x": false, "a,-a": false, "-a,a": false, "c,-c": false,
		"a,a,a,a,a,a,a,b": true, "a,a,a,a,a,a,a,c": false, "c,a,a,a,a,a,a,a": false,
	})
	if !label.Match(nil, s) || !label.Match(label.Sel{}, s) || !label.Match(nil, nil) {
		t.Error("no Terms do not hold")
	}
	whole := pairs(0, 8)
	for i, p := range whole {
		checkMatches(t, whole, map[string]bool{p.Key: true, "-" + p.Key: false, p.Key + ":v": true, p.Key + "!v": false})
		checkMatches(t, slices.Delete(slices.Clone(whole), i, i+1), map[string]bool{p.Key: false, "-" + p.Key: true, p.Key + ":v": false, p.Key + "!v": true})
	}
}

func TestP401Text(t *testing.T) {
	for _, c := range []struct {
		s    label.Set
		want string
	}{
		{nil, "-"},
		{label.Set{}, "-"},
		{label.Set{{"a", "b"}}, "a:b"},
		{label.Set{{"a", "b"}, {"c", "d"}}, "a:b,c:d"},
		{label.Set{{longest, longest}}, longest + ":" + longest},
		{pairs(0, 8), "ka:v,kb:v,kc:v,kd:v,ke:v,kf:v,kg:v,kh:v"},
	} {
		if text := label.Text(c.s); text != c.want {
			t.Errorf("Text(%q): %q; want %q", c.s, text, c.want)
		}
	}
}

func TestP401SelText(t *testing.T) {
	for _, c := range []struct {
		l    label.Sel
		want string
	}{
		{nil, "-"},
		{label.Sel{}, "-"},
		{label.Sel{{label.Is, "a", "b"}}, "a:b"},
		{label.Sel{{label.Not, "a", "b"}}, "a!b"},
		{label.Sel{{label.Has, "a", ""}}, "a"},
		{label.Sel{{label.Lacks, "a", ""}}, "-a"},
		{label.Sel{{label.Lacks, "z", ""}, {label.Has, "a", ""}, {label.Is, "b", "c"}, {label.Not, "b", "d"}, {label.Has, "a", ""}}, "-z,a,b:c,b!d,a"},
		{terms(8), "ka:v,kb!v,kc,-kd,ke:v,kf!v,kg,-kh"},
	} {
		if text := label.SelText(c.l); text != c.want {
			t.Errorf("SelText(%+v): %q; want %q", c.l, text, c.want)
		}
	}
}

// checkParse: the text is read as that Set, or refused with that error and nothing beside it.
func checkParse(t *testing.T, text string, want label.Set, wantErr api.Errno) {
	t.Helper()
	s, e := label.Parse(text)
	if e != wantErr || !slices.Equal(s, want) || e != api.OK && s != nil {
		t.Errorf("Parse(%.60q): %q %v; want %q %v", text, s, e, want, wantErr)
	}
}

func checkParseSel(t *testing.T, text string, want label.Sel, wantErr api.Errno) {
	t.Helper()
	l, e := label.ParseSel(text)
	if e != wantErr || !slices.Equal(l, want) || e != api.OK && l != nil {
		t.Errorf("ParseSel(%.60q): %+v %v; want %+v %v", text, l, e, want, wantErr)
	}
}

func refused(t *testing.T, want api.Errno, l ...string) {
	t.Helper()
	for _, text := range l {
		checkParse(t, text, nil, want)
	}
}

func refusedSel(t *testing.T, want api.Errno, l ...string) {
	t.Helper()
	for _, text := range l {
		checkParseSel(t, text, nil, want)
	}
}

func TestP401ParseReadsWhatTextTells(t *testing.T) {
	for _, s := range []label.Set{nil, {}, {{"a", "b"}}, {{"a", "b"}, {"b", "a"}}, {{longest, longest}}, {{"0", "0"}, {"00", "0"}, {"a", "0"}}, pairs(0, 8)} {
		checkParse(t, label.Text(s), s, api.OK)
	}
	checkParse(t, "-", nil, api.OK)
	checkParse(t, "ab:cd,ef:gh", label.Set{{"ab", "cd"}, {"ef", "gh"}}, api.OK)
}

func TestP401ParseSelReadsWhatSelTextTells(t *testing.T) {
	for _, l := range []label.Sel{nil, {}, terms(1), terms(4), terms(8), {{label.Is, longest, longest}, {label.Not, longest, longest}, {label.Has, longest, ""}, {label.Lacks, longest, ""}}} {
		checkParseSel(t, label.SelText(l), l, api.OK)
	}
	checkParseSel(t, "-", nil, api.OK)
	checkParseSel(t, "ab:cd", label.Sel{{label.Is, "ab", "cd"}}, api.OK)
	checkParseSel(t, "ab!cd", label.Sel{{label.Not, "ab", "cd"}}, api.OK)
	checkParseSel(t, "ab", label.Sel{{label.Has, "ab", ""}}, api.OK)
	checkParseSel(t, "-ab", label.Sel{{label.Lacks, "ab", ""}}, api.OK)
	checkParseSel(t, "-z,a,a,b!c,b:c", label.Sel{{label.Lacks, "z", ""}, {label.Has, "a", ""}, {label.Has, "a", ""}, {label.Not, "b", "c"}, {label.Is, "b", "c"}}, api.OK)
}

// A Sel of one, two and three Terms of each kind is read as it was told.
func TestP401ParseSelReadsAllSmallOnes(t *testing.T) {
	kinds := []label.Term{{label.Is, "a", "x"}, {label.Not, "a", "x"}, {label.Has, "a", ""}, {label.Lacks, "a", ""}, {label.Is, "x", "a"}, {label.Not, "0", "0"}}
	var grow func(l label.Sel)
	grow = func(l label.Sel) {
		checkParseSel(t, label.SelText(l), l, api.OK)
		if len(l) == 3 {
			return
		}
		for _, k := range kinds {
			grow(append(slices.Clone(l), k))
		}
	}
	grow(nil)
}

func TestP401ParseRefusesForms(t *testing.T) {
	refused(t, api.ErrForm,
		"", ",", ",,", "a:b,", ",a:b", "a:b,,c:d", "a:b,c:d,", "-,a:b", "a:b,-", "-,-", "--", " -", "- ",
		"a", "a!b", "-a", "ab", "A", " ", "a=b", "a;b", "a：b", "a:b,c", "a,b:c",
		"a:b:c", "a::b", "::", ":::", ":a:", "a:b:", ":a:b", "a:b,c:d:e", "a:b;c:d", "a:b c:d", strings.Repeat(":", 1000))
}

func TestP401ParseSelRefusesForms(t *testing.T) {
	refusedSel(t, api.ErrForm,
		"", ",", ",,", "a,", ",a", "a,,b", "a:b,", ",-a", "-,", ",-",
		"a:b:c", "a::b", "::", "a!b!c", "a!!b", "!!", "a:b!c", "a!b:c", "a:!b", "a!:b", ":!", "!:", "a:b:", "!a!", ":a!", "a,b:c:d", strings.Repeat("!", 1000), strings.Repeat(":", 1000),
		"-a:b", "-a!b", "-:", "-!", "-:b", "-!b", "-a:", "-a!", "--a:b", "--a!b", "-a:b:c", "-a!b!c", "-a:b!c", "a,-a:b", "-a,-b!c")
}

func TestP401ParseRefusesWhatCheckRefuses(t *testing.T) {
	refused(t, api.ErrLong, label.Text(pairs(0, 9)), wholeText("a:b", 9), wholeText("A:b", 9), wholeText(":", 9), wholeText(":", 100000))
	refused(t, api.ErrName, ":", "a:", ":b", "A:b", "a:B", "-:b", "a:-", "-a:b", "a:-b", "a:b!c", "a!b:c", "!:!", "a :b", "a: b", " a:b", "a:b ", "a:b\n", "a:b, c:d", longest+"m:a", "a:"+longest+"m", "é:a", "a:\xff", wholeText(":", 8), "a:"+strings.Repeat("b", 1<<20))
	refused(t, api.ErrOrder, "b:x,a:x", "a:x,a:x", "a:x,a:y", "aa:x,a:x", "a:x,9:x", "a:x,c:x,b:x", "b:x,a:x,A:x", wholeText("a:b", 8))
}

func TestP401ParseSelRefusesWhatCheckSelRefuses(t *testing.T) {
	refusedSel(t, api.ErrLong, wholeText("a", 9), wholeText("-a", 9), wholeText("a:b", 9), wholeText("a!b", 9), wholeText("A", 9), wholeText("-", 9), label.SelText(terms(9)), wholeText("A", 100000))
	refusedSel(t, api.ErrName,
		"A", " a", "a ", "a b", "a=b", "a-b", "a-", "é", "\xff", "a\n", "a, b", longest+"m", strings.Repeat("a", 1<<20),
		"--", "--a", "-A", "- a", "-a-", "a,-", "-,a", "-,-", "-"+longest+"m", "---",
		":", "a:", ":b", "A:b", "a:B", "a:-", "a:-b", "a-:b", longest+"m:a", "a:"+longest+"m",
		"!", "a!", "!b", "A!b", "a!B", "a!-", "a!-b", "a-!b", longest+"m!a", "a!"+longest+"m", wholeText("!", 8))
}

// The form of all parts is asked first, then what Check and CheckSel ask.
func TestP401ParseTellsTheFirstError(t *testing.T) {
	nine := label.Text(pairs(0, 9))
	refused(t, api.ErrForm, "A:b,c", "a:,b", "b:x,a:x,", nine+",", nine+",a", "a,"+nine, nine+",a:b:c", wholeText("A:b", 1000)+",a", ":,"+nine+",-")
	refused(t, api.ErrLong, "A:b,"+nine, nine+",A:b", "b:x,"+nine)
	refused(t, api.ErrName, "b:x,A:x", "b:x,a:X", "b:x,b:", "A:x,b:x,a:x")
	nineTerms := wholeText("a", 9)
	refusedSel(t, api.ErrForm, "A,a:b:c", "a:,-a:b", "-,,", nineTerms+",", nineTerms+",-a!b", ","+nineTerms, wholeText("A", 1000)+",a::b")
	refusedSel(t, api.ErrLong, "A,"+nineTerms, nineTerms+",A", nineTerms+",-")
}

// alone: a call leaves what it is handed, with its spare room, as it was, and what is written into its answer, with its spare room, is told by no later one.
func alone[T comparable](t *testing.T, name string, mine T, call func() []T) {
	t.Helper()
	answer := call()
	before := slices.Clone(answer)
	room := answer[:cap(answer)]
	for i := range room {
		room[i] = mine
	}
	again := call()
	if !slices.Equal(again, before) || slices.Contains(again[:cap(again)], mine) {
		t.Errorf("%s answered one list twice", name)
	}
}

func TestP2AnswersAreNewMemory(t *testing.T) {
	for _, text := range []string{"-", "a:b", "a:b,c:d,e:f", label.Text(pairs(0, 8))} {
		alone(t, "Parse "+text, label.Pair{Key: "mine", Val: "mine"}, func() []label.Pair {
			s, _ := label.Parse(text)
			return s
		})
	}
	for _, text := range []string{"-", "a:b", "a,-b,c:d", label.SelText(terms(8))} {
		alone(t, "ParseSel "+text, label.Term{Op: 7, Key: "mine"}, func() []label.Term {
			l, _ := label.ParseSel(text)
			return l
		})
	}
}

func TestP2NothingHandedInIsChanged(t *testing.T) {
	for _, whole := range []label.Set{pairs(0, 5), pairs(0, 12), {{"b", "x"}, {"a", ""}, {"", "y"}}} {
		before := slices.Clone(whole)
		s := whole[:len(whole)-1]
		for _, wholeSel := range []label.Sel{terms(5), terms(12), {{9, "", "x"}, {label.Is, "b", ""}, {label.Has, "a", "b"}}} {
			beforeSel := slices.Clone(wholeSel)
			l := wholeSel[:len(wholeSel)-1]
			label.Check(s)
			label.CheckSel(l)
			label.Get(s, "a")
			label.Match(l, s)
			label.Text(s)
			label.SelText(l)
			if !slices.Equal(wholeSel, beforeSel) {
				t.Errorf("%+v became %+v", beforeSel, wholeSel)
			}
		}
		if !slices.Equal(whole, before) {
			t.Errorf("%q became %q", before, whole)
		}
	}
}

func TestP3SameCallsAnswerTheSame(t *testing.T) {
	for range 3 {
		checkParse(t, "a:b,c", nil, api.ErrForm)
		checkParse(t, "a:b,c:d", label.Set{{"a", "b"}, {"c", "d"}}, api.OK)
		checkParse(t, "b:x,a:x", nil, api.ErrOrder)
		checkParseSel(t, "a,-a:b", nil, api.ErrForm)
		checkParseSel(t, "a,-b", label.Sel{{label.Has, "a", ""}, {label.Lacks, "b", ""}}, api.OK)
		checkParseSel(t, "a,A", nil, api.ErrName)
	}
}

// Whatever plain data is given, no call goes out by a panic, also where Check and CheckSel refuse what others are handed.
func TestP1EveryCallEnds(t *testing.T) {
	sets := []label.Set{nil, {}, {{}}, {{"\xff", ","}}, {{"b", ":"}, {"a", "!"}, {"b", "-"}}, pairs(0, 100)}
	sels := []label.Sel{nil, {}, {{}}, {{math.MinInt, "a", "b"}}, {{math.MaxInt, "\xff", ","}}, {{label.Is, "", ""}, {label.Not, "", ""}, {label.Has, "", "x"}, {label.Lacks, "-", "x"}}, terms(100)}
	for _, s := range sets {
		for _, l := range sels {
			label.Match(l, s)
			label.CheckSel(l)
			label.ParseSel(label.SelText(l))
		}
		label.Check(s)
		label.Get(s, "")
		label.Parse(label.Text(s))
	}
}

// Texts of the signs that matter, of up to six: each is read as it is written, or refused, with no panic.
func TestP401WhatIsReadIsToldJustSoWritten(t *testing.T) {
	for text := range trial.Texts("aB:!-,", 6) {
		checkBack(t, text)
	}
}

func checkBack(t *testing.T, text string) {
	t.Helper()
	s, e := label.Parse(text)
	// of sound parts some have keys that do not rise
	sound := wantedOf(text, setForm, setName)
	if e != sound && (sound != api.OK || e != api.ErrOrder) || e == api.OK && (label.Text(s) != text || label.Check(s) != api.OK) {
		t.Errorf("Parse(%s): %q %v", strconv.Quote(text), s, e)
	}
	l, e := label.ParseSel(text)
	if e != wantedOf(text, selForm, selName) || e == api.OK && (label.SelText(l) != text || label.CheckSel(l) != api.OK) {
		t.Errorf("ParseSel(%s): %+v %v", strconv.Quote(text), l, e)
	}
}

// wantedOf: the error of a short text by the chapter's words, but for the order of keys.
func wantedOf(text string, form, named func(part string) bool) api.Errno {
	if text == "-" {
		return api.OK
	}
	parts := strings.Split(text, ",")
	for _, p := range parts {
		if p == "" || !form(p) {
			return api.ErrForm
		}
	}
	for _, p := range parts {
		if !named(p) {
			return api.ErrName
		}
	}
	return api.OK
}

func setForm(part string) bool { return strings.Count(part, ":") == 1 }

func selForm(part string) bool {
	signs := strings.Count(part, ":") + strings.Count(part, "!")
	return signs == 0 || signs == 1 && part[0] != '-'
}

// Of the few signs above just `a` may stand in a name.
var (
	setName = regexp.MustCompile("^a+:a+$").MatchString
	selName = regexp.MustCompile("^(a+:a+|a+!a+|a+|-a+)$").MatchString
)
