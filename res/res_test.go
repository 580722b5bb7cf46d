package res_test

import (
	"math"
	"math/big"
	"slices"
	"strconv"
	"strings"
	"testing"

	"ballast/api"
	"ballast/res"
)

const (
	most     = math.MaxInt64
	least    = math.MinInt64
	mostText = "9223372036854775807"
	overText = "9223372036854775808"
)

// many: that many amounts with names of two signs that rise from the one of first on.
func many(first, count int) res.Vec {
	var v res.Vec
	for i := range count {
		v = append(v, res.Amount{Name: "n" + string(rune('a'+first+i)), N: 1})
	}
	return v
}

// wrongs: Vecs that Check refuses, each with its error.
func wrongs() map[api.Errno]res.Vec {
	return map[api.Errno]res.Vec{
		api.ErrLong:  many(0, 9),
		api.ErrName:  {{"A", 1}},
		api.ErrArg:   {{"a", 0}},
		api.ErrOrder: {{"b", 1}, {"a", 1}},
	}
}

// checkAnswer: an answer is the one wanted, and none beside an error.
func checkAnswer(t *testing.T, what string, v res.Vec, e api.Errno, want res.Vec, wantErr api.Errno) {
	t.Helper()
	if e != wantErr || !slices.Equal(v, want) {
		t.Errorf("%s: %v %v; want %v %v", what, v, e, want, wantErr)
	}
	if e != api.OK && v != nil {
		t.Errorf("%s: %v beside %v", what, v, e)
	}
}

func TestP201NameHasOneToTwelveSigns(t *testing.T) {
	for n := range 40 {
		want := n >= 1 && n <= 12
		for _, sign := range []string{"a", "z", "0", "9", "m", "5"} {
			if s := strings.Repeat(sign, n); res.Name(s) != want {
				t.Errorf("Name(%q): %v", s, !want)
			}
		}
	}
	if res.Name(strings.Repeat("a", 1<<20)) {
		t.Error("Name of 2^20 signs")
	}
}

func TestP201NameHasSmallLettersAndDigits(t *testing.T) {
	const signs = "abcdefghijklmnopqrstuvwxyz0123456789"
	for c := range 256 {
		want := strings.IndexByte(signs, byte(c)) >= 0
		sign := string([]byte{byte(c)})
		for _, s := range []string{sign, sign + "a", "a" + sign + "a", "a" + sign, "abcdefghijk" + sign} {
			if res.Name(s) != want {
				t.Errorf("Name(%q): %v", s, !want)
			}
		}
	}
	for _, s := range []string{"é", "aé", "ａ", "１", "٣", "ß", "ı", "a\u0301", "\xff\xfe", "\ufeffa"} {
		if res.Name(s) {
			t.Errorf("Name(%q)", s)
		}
	}
}

func TestP201Check(t *testing.T) {
	for i, c := range []struct {
		v    res.Vec
		want api.Errno
	}{
		{nil, api.OK},
		{res.Vec{}, api.OK},
		{res.Vec{{"a", 1}}, api.OK},
		{res.Vec{{"abcdefghijkl", most}}, api.OK},
		{res.Vec{{"0", 1}, {"9", 1}, {"a", 1}, {"aa", 1}, {"b", 1}}, api.OK},
		{res.Vec{{"a", most}, {"b", most}}, api.OK},
		{many(0, 8), api.OK},
		{many(0, 9), api.ErrLong},
		{many(0, 20), api.ErrLong},
		{res.Vec{{"", 1}}, api.ErrName},
		{res.Vec{{"abcdefghijklm", 1}}, api.ErrName},
		{res.Vec{{"A", 1}}, api.ErrName},
		{res.Vec{{"a", 1}, {"b=", 1}}, api.ErrName},
		{res.Vec{{"a", 0}}, api.ErrArg},
		{res.Vec{{"a", -1}}, api.ErrArg},
		{res.Vec{{"a", least}}, api.ErrArg},
		{res.Vec{{"a", 1}, {"b", 0}}, api.ErrArg},
		{res.Vec{{"b", 1}, {"a", 1}}, api.ErrOrder},
		{res.Vec{{"a", 1}, {"a", 1}}, api.ErrOrder},
		{res.Vec{{"a", 1}, {"a", 2}}, api.ErrOrder},
		{res.Vec{{"aa", 1}, {"a", 1}}, api.ErrOrder},
		{res.Vec{{"a", 1}, {"9", 1}}, api.ErrOrder},
		{res.Vec{{"a", 1}, {"c", 1}, {"b", 1}}, api.ErrOrder},
	} {
		if e := res.Check(c.v); e != c.want {
			t.Errorf("%d: Check(%v): %v; want %v", i, c.v, e, c.want)
		}
	}
}

// Too many are told ahead of all, then the first Amount's errors, of one Amount in the chapter's order.
func TestP201CheckTellsTheFirstError(t *testing.T) {
	worst := slices.Concat(res.Vec{{"", 0}}, many(0, 8))
	for i, c := range []struct {
		v    res.Vec
		want api.Errno
	}{
		{worst, api.ErrLong},
		{worst[:8], api.ErrName},
		{append(many(0, 8), res.Amount{}), api.ErrLong},
		{res.Vec{{"", 0}}, api.ErrName},
		{res.Vec{{"b", 1}, {"A", 0}}, api.ErrName},
		{res.Vec{{"b", 1}, {"A", 1}}, api.ErrName},
		{res.Vec{{"b", 1}, {"a", 0}}, api.ErrArg},
		{res.Vec{{"b", 0}, {"A", 1}}, api.ErrArg},
		{res.Vec{{"b", 0}, {"a", 1}}, api.ErrArg},
		{res.Vec{{"b", 1}, {"a", 1}, {"", 1}}, api.ErrOrder},
		{res.Vec{{"b", 1}, {"a", 1}, {"c", 0}}, api.ErrOrder},
		{res.Vec{{"A", 1}, {"b", 0}}, api.ErrName},
	} {
		if e := res.Check(c.v); e != c.want {
			t.Errorf("%d: Check(%v): %v; want %v", i, c.v, e, c.want)
		}
	}
}

func TestP201Get(t *testing.T) {
	v := res.Vec{{"a", 3}, {"b", most}, {"ba", 7}}
	for name, want := range map[string]int64{"a": 3, "b": most, "ba": 7, "c": 0, "": 0, "A": 0, "ab": 0, "0": 0} {
		if n := res.Get(v, name); n != want {
			t.Errorf("Get(%v, %q): %d; want %d", v, name, n, want)
		}
	}
	if res.Get(nil, "a") != 0 || res.Get(res.Vec{}, "") != 0 {
		t.Error("Get of none")
	}
}

// smalls: all Vecs of a, b, c with a few numbers each.
func smalls() []res.Vec {
	l := []res.Vec{nil}
	for _, name := range []string{"a", "b", "c"} {
		for _, v := range l {
			for _, n := range []int64{1, 2, most - 1, most} {
				l = append(l, append(slices.Clone(v), res.Amount{Name: name, N: n}))
			}
		}
	}
	return l
}

// byName reckons in whole numbers what P201 asks for, from maps of what each has.
func byName(a, b res.Vec, reckon func(z, x, y *big.Int) *big.Int) (res.Vec, api.Errno) {
	had := func(v res.Vec) map[string]int64 {
		m := map[string]int64{}
		for _, x := range v {
			m[x.Name] = x.N
		}
		return m
	}
	x, y := had(a), had(b)
	var v res.Vec
	for _, name := range []string{"a", "b", "c"} {
		n := reckon(new(big.Int), big.NewInt(x[name]), big.NewInt(y[name]))
		if n.Sign() < 0 || !n.IsInt64() {
			return nil, api.ErrOver
		}
		if n.Sign() > 0 {
			v = append(v, res.Amount{Name: name, N: n.Int64()})
		}
	}
	return v, api.OK
}

func TestP201AddAndSubGoNameByName(t *testing.T) {
	l := smalls()
	for _, a := range l {
		for _, b := range l {
			v, e := res.Add(a, b)
			want, wantErr := byName(a, b, (*big.Int).Add)
			checkAnswer(t, "Add "+res.Text(a)+" "+res.Text(b), v, e, want, wantErr)
			v, e = res.Sub(a, b)
			want, wantErr = byName(a, b, (*big.Int).Sub)
			checkAnswer(t, "Sub "+res.Text(a)+" "+res.Text(b), v, e, want, wantErr)
		}
	}
}

type pairCase struct {
	a, b, want res.Vec
	e          api.Errno
}

func checkPairs(t *testing.T, name string, call func(a, b res.Vec) (res.Vec, api.Errno), l []pairCase) {
	t.Helper()
	for _, c := range l {
		v, e := call(c.a, c.b)
		checkAnswer(t, name+" "+res.Text(c.a)+" "+res.Text(c.b), v, e, c.want, c.e)
	}
}

func TestP201AddOfManyNames(t *testing.T) {
	great := func(v res.Vec, i int) res.Vec {
		v[i].N = most
		return v
	}
	twice := many(0, 8)
	for i := range twice {
		twice[i].N = 2
	}
	checkPairs(t, "Add", res.Add, []pairCase{
		{many(0, 8), nil, many(0, 8), api.OK},
		{nil, many(0, 8), many(0, 8), api.OK},
		{many(0, 8), many(0, 8), twice, api.OK},
		{many(0, 4), many(4, 4), many(0, 8), api.OK},
		{many(4, 4), many(0, 4), many(0, 8), api.OK},
		{many(0, 8), many(8, 1), nil, api.ErrLong},
		{many(1, 8), many(0, 1), nil, api.ErrLong},
		{many(0, 5), many(5, 4), nil, api.ErrLong},
		{many(0, 8), many(8, 8), nil, api.ErrLong},
		{great(many(0, 8), 0), many(0, 8), nil, api.ErrOver},
		{great(many(0, 8), 7), many(0, 8), nil, api.ErrOver},
		// a number that is too great is told ahead of too many names, also where it is behind the ninth
		{great(many(0, 5), 4), many(4, 5), nil, api.ErrOver},
		{great(many(0, 5), 0), slices.Concat(many(0, 1), many(5, 4)), nil, api.ErrOver},
		{slices.Concat(many(0, 7), res.Vec{{"z", most}}), slices.Concat(many(7, 7), res.Vec{{"z", 1}}), nil, api.ErrOver},
	})
}

func TestP201SubLeavesOutWhatComesToNought(t *testing.T) {
	checkPairs(t, "Sub", res.Sub, []pairCase{
		{nil, nil, nil, api.OK},
		{many(0, 8), many(0, 8), nil, api.OK},
		{many(0, 8), many(0, 7), many(7, 1), api.OK},
		{many(0, 8), many(1, 7), many(0, 1), api.OK},
		{res.Vec{{"a", 5}, {"b", 3}}, res.Vec{{"a", 5}, {"b", 1}}, res.Vec{{"b", 2}}, api.OK},
		{res.Vec{{"a", most}}, res.Vec{{"a", most - 1}}, res.Vec{{"a", 1}}, api.OK},
		{res.Vec{{"a", most}}, res.Vec{{"b", 1}}, nil, api.ErrOver},
		{res.Vec{{"a", 1}}, res.Vec{{"a", 2}}, nil, api.ErrOver},
		{many(0, 8), many(1, 8), nil, api.ErrOver},
	})
}

func TestP201PairsRefuseWhatCheckRefusesAsFirst(t *testing.T) {
	for _, call := range []func(a, b res.Vec) (res.Vec, api.Errno){res.Add, res.Sub} {
		for e, bad := range wrongs() {
			checkPairs(t, "pair", call, []pairCase{
				{bad, nil, nil, e},
				{nil, bad, nil, e},
				{bad, bad, nil, e},
				{bad, res.Vec{{"a", most}}, nil, e},
				{res.Vec{{"a", most}}, bad, nil, e},
			})
			for _, other := range wrongs() {
				checkPairs(t, "pair", call, []pairCase{{bad, other, nil, e}})
			}
		}
	}
}

type byCase struct {
	v    res.Vec
	n    int64
	want res.Vec
	e    api.Errno
}

func checkBys(t *testing.T, name string, call func(v res.Vec, n int64) (res.Vec, api.Errno), l []byCase) {
	t.Helper()
	for _, c := range l {
		v, e := call(c.v, c.n)
		checkAnswer(t, name+" "+res.Text(c.v)+" "+strconv.FormatInt(c.n, 10), v, e, c.want, c.e)
	}
}

func TestP201Times(t *testing.T) {
	checkBys(t, "Times", res.Times, []byCase{
		{nil, 0, nil, api.OK},
		{nil, 7, nil, api.OK},
		{nil, -7, nil, api.OK},
		{res.Vec{}, least, nil, api.OK},
		{res.Vec{{"a", 3}, {"b", 4}}, 1, res.Vec{{"a", 3}, {"b", 4}}, api.OK},
		{res.Vec{{"a", 3}, {"b", 4}}, 2, res.Vec{{"a", 6}, {"b", 8}}, api.OK},
		{res.Vec{{"a", 3}, {"b", most}}, 0, nil, api.OK},
		{res.Vec{{"a", 1}}, most, res.Vec{{"a", most}}, api.OK},
		{res.Vec{{"a", 1}, {"b", 2}}, most, nil, api.ErrOver},
		{res.Vec{{"a", most}}, 2, nil, api.ErrOver},
		{res.Vec{{"a", 1 << 32}}, 1 << 32, nil, api.ErrOver},
		{res.Vec{{"a", 3}}, -1, nil, api.ErrArg},
		{res.Vec{{"a", most}}, least, nil, api.ErrArg},
		{many(0, 8), 1, many(0, 8), api.OK},
	})
}

func TestP201PartRoundsDownAndLeavesOutNoughts(t *testing.T) {
	checkBys(t, "Part", res.Part, []byCase{
		{nil, 500, nil, api.OK},
		{nil, -7, nil, api.OK},
		{res.Vec{{"a", 3}, {"b", 4}}, 1000, res.Vec{{"a", 3}, {"b", 4}}, api.OK},
		{res.Vec{{"a", 3}, {"b", 400}}, 500, res.Vec{{"a", 1}, {"b", 200}}, api.OK},
		{res.Vec{{"a", 3}, {"b", 4}}, 2500, res.Vec{{"a", 7}, {"b", 10}}, api.OK},
		{res.Vec{{"a", 999}, {"b", 1000}, {"c", 1}}, 1, res.Vec{{"b", 1}}, api.OK},
		{res.Vec{{"a", 1}}, 999, nil, api.OK},
		{res.Vec{{"a", 5}}, 0, nil, api.OK},
		{res.Vec{{"a", most}}, 1000, res.Vec{{"a", most}}, api.OK},
		{res.Vec{{"a", most}}, 500, res.Vec{{"a", 1<<62 - 1}}, api.OK},
		{res.Vec{{"a", 1}, {"b", most}}, 1001, nil, api.ErrOver},
		{res.Vec{{"a", 5}}, -1, nil, api.ErrArg},
		{res.Vec{{"a", most}}, least, nil, api.ErrArg},
	})
}

func TestP201TimesAndPartRefuseWhatCheckRefusesFirst(t *testing.T) {
	for _, call := range []func(v res.Vec, n int64) (res.Vec, api.Errno){res.Times, res.Part} {
		for e, bad := range wrongs() {
			checkBys(t, "by", call, []byCase{{bad, 1, nil, e}, {bad, 0, nil, e}, {bad, -1, nil, e}, {bad, most, nil, e}})
		}
	}
	// behind an Amount that is too great one that Check refuses
	checkBys(t, "Times", res.Times, []byCase{{res.Vec{{"a", most}, {"b", 0}}, 2, nil, api.ErrArg}, {res.Vec{{"b", most}, {"a", 1}}, 2, nil, api.ErrOrder}})
}

func TestP201Fits(t *testing.T) {
	for i, c := range []struct {
		need, have res.Vec
		want       bool
	}{
		{nil, nil, true},
		{nil, res.Vec{{"a", 1}}, true},
		{res.Vec{}, nil, true},
		{res.Vec{{"a", 1}}, nil, false},
		{res.Vec{{"a", 1}}, res.Vec{}, false},
		{res.Vec{{"a", 1}}, res.Vec{{"a", 1}}, true},
		{res.Vec{{"a", 2}}, res.Vec{{"a", 1}}, false},
		{res.Vec{{"a", 1}}, res.Vec{{"a", 2}}, true},
		{res.Vec{{"a", most}}, res.Vec{{"a", most}}, true},
		{res.Vec{{"a", most}}, res.Vec{{"a", most - 1}}, false},
		{res.Vec{{"a", 1}}, res.Vec{{"b", 1}}, false},
		{res.Vec{{"b", 1}}, res.Vec{{"a", 1}, {"b", 2}, {"c", 1}}, true},
		{res.Vec{{"a", 1}, {"b", 3}}, res.Vec{{"a", 1}, {"b", 2}}, false},
		{res.Vec{{"a", 3}, {"b", 1}}, res.Vec{{"a", 1}, {"b", 2}}, false},
		{res.Vec{{"a", 1}, {"c", 1}}, res.Vec{{"a", 1}, {"b", 1}}, false},
		{many(0, 8), many(0, 8), true},
		{many(0, 8), many(0, 7), false},
		{many(0, 7), many(0, 8), true},
	} {
		if res.Fits(c.need, c.have) != c.want {
			t.Errorf("%d: Fits(%v, %v): %v", i, c.need, c.have, !c.want)
		}
	}
}

// Of any two, also of those that Check refuses.
func TestP201Same(t *testing.T) {
	l := []res.Vec{nil, {{"a", 1}}, {{"a", 2}}, {{"b", 1}}, {{"a", 1}, {"b", 1}}, {{"b", 1}, {"a", 1}}, {{"a", 1}, {"a", 1}}, {{"", 0}}, {{"A", -1}}, {{"a", 0}}, many(0, 8), many(0, 9), many(1, 9)}
	for i, a := range l {
		for j, b := range l {
			if res.Same(a, slices.Clone(b)) != (i == j) {
				t.Errorf("Same(%v, %v): %v", a, b, i != j)
			}
		}
	}
	if !res.Same(nil, res.Vec{}) || !res.Same(res.Vec{}, nil) {
		t.Error("none and nil are not the same")
	}
}

// Of any, also of those that Check refuses.
func TestP201Text(t *testing.T) {
	for _, c := range []struct {
		v    res.Vec
		want string
	}{
		{nil, "-"},
		{res.Vec{}, "-"},
		{res.Vec{{"a", 1}}, "a=1"},
		{res.Vec{{"cpu0", 1000}, {"mem", most}}, "cpu0=1000,mem=" + mostText},
		{many(0, 8), "na=1,nb=1,nc=1,nd=1,ne=1,nf=1,ng=1,nh=1"},
		{many(0, 9), "na=1,nb=1,nc=1,nd=1,ne=1,nf=1,ng=1,nh=1,ni=1"},
		{res.Vec{{"", 0}}, "=0"},
		{res.Vec{{"B", -1}, {"a", least}}, "B=-1,a=-9223372036854775808"},
		{res.Vec{{"a,b=", 1}, {"é\x00\xff", 2}}, "a,b==1,é\x00\xff=2"},
	} {
		if s := res.Text(c.v); s != c.want {
			t.Errorf("Text(%v): %q; want %q", c.v, s, c.want)
		}
	}
}

func TestP201ParseReadsWhatTextTells(t *testing.T) {
	l := append(smalls(), res.Vec{{"abcdefghijkl", most}}, many(0, 8), res.Vec{{"0", 10}, {"00", 100}, {"1", 909}})
	for _, v := range l {
		back, e := res.Parse(res.Text(v))
		checkAnswer(t, "Parse "+res.Text(v), back, e, v, api.OK)
	}
}

func checkRefused(t *testing.T, want api.Errno, l ...string) {
	t.Helper()
	for _, s := range l {
		v, e := res.Parse(s)
		checkAnswer(t, "Parse "+strconv.Quote(s), v, e, nil, want)
	}
}

func TestP201ParseRefusesForms(t *testing.T) {
	checkRefused(t, api.ErrForm,
		"", ",", "--", "-,-", "-,a=1", "a=1,-", "- ", " -", "a", "=", "a=", "a=1,", ",a=1", "a=1,,b=1", "a=1;b=1",
		"a==1", "a=1=", "a=1=2", "=a=1", "a:1", "a=1,b", "a=1,b=", "a=1\n", "a=1\x00",
		"a=01", "a=00", "a=+1", "a=-1", "a=-0", "a= 1", "a=1 ", "a=1_0", "a=0x1", "a=1.0", "a=1e3", "a=b", "a=１", "a=٣", "a=1\xff",
		"a=0"+mostText, "a=-"+mostText, "a=1,b=01", "a=01,b=1")
}

func TestP201ParseRefusesGreatNumbers(t *testing.T) {
	checkRefused(t, api.ErrOver,
		"a="+overText, "a=1,b="+overText, "a="+overText+",b=1", "a=9223372036854775810", "a=18446744073709551615",
		"a=18446744073709551616", "a=18446744073709551617", "a=10000000000000000000", "a=99999999999999999999", "a="+strings.Repeat("9", 1000))
	v, e := res.Parse("a=" + mostText)
	checkAnswer(t, "Parse of 2^63 - 1", v, e, res.Vec{{"a", most}}, api.OK)
}

func TestP201ParseRefusesWhatCheckRefuses(t *testing.T) {
	checkRefused(t, api.ErrLong, res.Text(many(0, 9)), strings.Repeat("a=1,", 8)+"a=1", "=1"+strings.Repeat(",=0", 8), strings.Repeat("A=0,", 100000)+"A=0")
	checkRefused(t, api.ErrName, "=1", "A=1", "-=1", "a b=1", " a=1", "a=1, b=2", "abcdefghijklm=1", "é=1", "a=1,=1", "\xff=1", "=0", "A=0", strings.Repeat("a", 1<<20)+"=1", "=1"+strings.Repeat(",=0", 7))
	checkRefused(t, api.ErrArg, "a=0", "a=1,b=0", "b=1,a=0", "a=0,A=1")
	checkRefused(t, api.ErrOrder, "b=1,a=1", "a=1,a=1", "a=1,a=2", "aa=1,a=1", "a=1,9=1", "b=1,a=1,A=0", strings.Repeat("a=1,", 7)+"a=1")
}

// The form of all parts is asked first, then all numbers, then what Check asks.
func TestP201ParseTellsTheFirstError(t *testing.T) {
	nine := res.Text(many(0, 9))
	checkRefused(t, api.ErrForm, "a="+overText+",b", "a="+overText+",b=01", "A=1,b", "a=0,b=", "b=1,a=1,", nine+",", nine+","+overText, "A=0,"+nine+",a=1=2", "A="+overText+","+nine+",b=")
	checkRefused(t, api.ErrOver, "A="+overText, "="+overText, "A=1,b="+overText, "a=0,b="+overText, "b=1,a="+overText, nine+",z="+overText, "a="+overText+","+nine, strings.Repeat("A=0,", 20)+"A="+overText)
	checkRefused(t, api.ErrLong, "A=0,"+nine, nine+",A=0")
}

// alone: a call leaves what it is handed, with its spare room, as it was, and what is written into its answer, with its spare room, is told by neither.
func alone(t *testing.T, name string, call func(a, b res.Vec) res.Vec) {
	t.Helper()
	whole := func() res.Vec { return res.Vec{{"a", 3}, {"b", 4000}, {"c", 5}, {"", -1}, {"x", 9}} }
	a, b := whole(), whole()
	answer := call(a[:3], b[:2])
	if !slices.Equal(a, whole()) || !slices.Equal(b, whole()) {
		t.Errorf("%s changed what it was handed: %v, %v", name, a, b)
	}
	room := answer[:cap(answer)]
	for i := range room {
		room[i] = res.Amount{Name: "mine", N: 77}
	}
	if !slices.Equal(a, whole()) || !slices.Equal(b, whole()) {
		t.Errorf("%s answered what it was handed: %v, %v", name, a, b)
	}
	again := call(a[:3], b[:2])
	for _, x := range again[:cap(again)] {
		if x.Name == "mine" {
			t.Errorf("%s answered one list twice", name)
		}
	}
}

func first(v res.Vec, e api.Errno) res.Vec { return v }

func TestP2AnswersAreNewMemory(t *testing.T) {
	alone(t, "Add", func(a, b res.Vec) res.Vec { return first(res.Add(a, b)) })
	alone(t, "Add of none", func(a, b res.Vec) res.Vec { return first(res.Add(a, nil)) })
	alone(t, "Add to none", func(a, b res.Vec) res.Vec { return first(res.Add(nil, b)) })
	alone(t, "Sub", func(a, b res.Vec) res.Vec { return first(res.Sub(a, b)) })
	alone(t, "Sub of none", func(a, b res.Vec) res.Vec { return first(res.Sub(a, nil)) })
	alone(t, "Sub of all", func(a, b res.Vec) res.Vec { return first(res.Sub(a, a)) })
	alone(t, "Times", func(a, b res.Vec) res.Vec { return first(res.Times(a, 1)) })
	alone(t, "Times 0", func(a, b res.Vec) res.Vec { return first(res.Times(a, 0)) })
	alone(t, "Part", func(a, b res.Vec) res.Vec { return first(res.Part(a, 1000)) })
	alone(t, "Part of less", func(a, b res.Vec) res.Vec { return first(res.Part(a, 1)) })
	alone(t, "Parse", func(a, b res.Vec) res.Vec { return first(res.Parse(res.Text(a))) })
}

func TestP2NothingHandedInIsChanged(t *testing.T) {
	for _, whole := range []res.Vec{{{"a", 1}, {"b", 2}, {"c", 3}}, {{"b", 1}, {"a", 0}, {"", -1}}, many(0, 12)} {
		before := slices.Clone(whole)
		v := whole[:len(whole)-1]
		res.Check(v)
		res.Get(v, "b")
		res.Add(v, v)
		res.Sub(v, v)
		res.Times(v, 2)
		res.Part(v, 500)
		res.Fits(v, v)
		res.Same(v, v)
		res.Text(v)
		if !slices.Equal(whole, before) {
			t.Errorf("%v became %v", before, whole)
		}
	}
}

func TestP3SameCallsAnswerTheSame(t *testing.T) {
	for range 3 {
		v, e := res.Add(res.Vec{{"a", most}}, res.Vec{{"a", 1}})
		checkAnswer(t, "Add", v, e, nil, api.ErrOver)
		v, e = res.Add(res.Vec{{"b", 1}}, res.Vec{{"a", 1}})
		checkAnswer(t, "Add", v, e, res.Vec{{"a", 1}, {"b", 1}}, api.OK)
		v, e = res.Parse("a=1,b")
		checkAnswer(t, "Parse", v, e, nil, api.ErrForm)
		v, e = res.Parse("a=1,b=2")
		checkAnswer(t, "Parse", v, e, res.Vec{{"a", 1}, {"b", 2}}, api.OK)
	}
}

// A text of which every part is one too many is still read to its end, and no call goes out by a panic.
func TestP1EveryCallEnds(t *testing.T) {
	for _, v := range []res.Vec{nil, {}, {{}}, {{"a", least}}, many(0, 100), {{"\xff", most}, {"\xff", most}}} {
		for _, b := range []res.Vec{nil, {{}}, many(3, 100), {{"a", most}}} {
			res.Add(v, b)
			res.Sub(v, b)
			res.Fits(v, b)
			res.Same(v, b)
		}
		for _, n := range []int64{0, 1, -1, most, least} {
			res.Times(v, n)
			res.Part(v, n)
		}
		res.Check(v)
		res.Get(v, "a")
		res.Parse(res.Text(v))
	}
}
