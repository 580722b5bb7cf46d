package parts_test

import (
	"iter"
	"slices"
	"strings"
	"testing"

	"ballast/api"
	"ballast/catch"
	"ballast/parts"
)

func quoted(s string) string { return "<" + s + ">" }

func unquoted(part string) string {
	if len(part) < 2 {
		panic(api.ErrForm)
	}
	return part[1 : len(part)-1]
}

// short refuses as a layer's check does: too many ahead of all, then the first of another length.
func short(l []string) api.Errno {
	if len(l) > api.MaxList {
		return api.ErrLong
	}
	if slices.ContainsFunc(l, func(s string) bool { return len(s) != 1 }) {
		return api.ErrName
	}
	return api.OK
}

func TestText(t *testing.T) {
	for want, l := range map[string][]string{"-": nil, "<a>": {"a"}, "<b>,<a>,<b>": {"b", "a", "b"}} {
		if text := parts.Text(l, quoted); text != want {
			t.Errorf("%q: %q; want %q", l, text, want)
		}
	}
	if text := parts.Text([]string{}, quoted); text != "-" {
		t.Errorf("none: %q", text)
	}
}

func TestParse(t *testing.T) {
	many := strings.Repeat("<a>,", api.MaxList)
	for _, c := range []struct {
		text  string
		count int
		want  api.Errno
	}{
		{"-", 0, api.OK},
		{"<a>", 1, api.OK},
		{"<b>,<a>,<b>", 3, api.OK},
		{many[:len(many)-1], api.MaxList, api.OK},
		{many + "<a>", 0, api.ErrLong},
		{many + many + "<bb>", 0, api.ErrLong},
		{many, 0, api.ErrForm},
		{many + many + "-", 0, api.ErrForm},
		{"<bb>,", 0, api.ErrForm},
		{"", 0, api.ErrForm},
		{"<a>,<bb>", 0, api.ErrName},
	} {
		l, e := catch.Errno(func() []string { return parts.Parse(c.text, unquoted, short) })
		if e != c.want || len(l) != c.count || e == api.OK && parts.Text(l, quoted) != c.text {
			t.Errorf("%q: %q %v; want %d, %v", c.text, l, e, c.count, c.want)
		}
	}
}

func TestWords(t *testing.T) {
	for _, c := range []struct {
		text  string
		words []string
	}{
		{"a b c", []string{"a", "b", "c"}},
		{"-  \t", []string{"-", "", "\t"}},
		{"  ", []string{"", "", ""}},
		{"", nil},
		{"a b", nil},
		{"a b c ", nil},
		{" a b c", nil},
		{"a  b c", nil},
		{strings.Repeat("a ", 1000), nil},
	} {
		words, e := catch.Errno(func() []string { return parts.Words(c.text, 3) })
		if !slices.Equal(words, c.words) || (e == api.OK) != (c.words != nil) || e != api.OK && e != api.ErrForm {
			t.Errorf("%q: %q %v; want %q", c.text, words, e, c.words)
		}
		if e == api.OK && parts.Join(words...) != c.text {
			t.Errorf("%q: joined %q", c.text, parts.Join(words...))
		}
	}
}

func TestAtLeast(t *testing.T) {
	for _, c := range []struct {
		text          string
		first, behind []string
	}{
		{"a b", []string{"a", "b"}, nil},
		{" ", []string{"", ""}, nil},
		{"a b c", []string{"a", "b"}, []string{"c"}},
		{"a b c d c", []string{"a", "b"}, []string{"c", "d", "c"}},
		{"a b ", []string{"a", "b"}, []string{""}},
		{"a b  c ", []string{"a", "b"}, []string{"", "c", ""}},
		{"a\tb  c", []string{"a\tb", ""}, []string{"c"}},
		{"", nil, nil},
		{"a", nil, nil},
	} {
		var behind iter.Seq[string]
		first, e := catch.Errno(func() (first []string) {
			first, behind = parts.AtLeast(c.text, 2)
			return first
		})
		if !slices.Equal(first, c.first) || (e == api.OK) != (c.first != nil) || e != api.OK && e != api.ErrForm {
			t.Errorf("%q: %q %v; want %q", c.text, first, e, c.first)
		}
		// over and over again
		for range 2 {
			if e == api.OK && !slices.Equal(slices.Collect(behind), c.behind) {
				t.Errorf("%q: behind %q; want %q", c.text, slices.Collect(behind), c.behind)
			}
		}
	}
	_, behind := parts.AtLeast("a b c d", 2)
	for word := range behind {
		if word != "c" {
			t.Errorf("%q", word)
		}
		break
	}
}

func TestDecimals(t *testing.T) {
	for text, want := range map[string][]string{
		"0/1/2":                     {"0", "1", "2"},
		"7/7/7":                     {"7", "7", "7"},
		"10/9223372036854775808/99": {"10", "9223372036854775808", "99"},
	} {
		if l, e := catch.Errno(func() []string { return parts.Decimals(text, "/", 3) }); !slices.Equal(l, want) || e != api.OK {
			t.Errorf("%q: %q %v", text, l, e)
		}
	}
	for _, text := range []string{"", "0", "0/1", "0/1/2/3", "0/1/2/", "/0/1/2", "//", "0//2", "/1/2", "0/1/", "00/1/2", "0/01/2", "0/1/02", "0/1/-2", "0/1/x", "x/1/2", "0:1:2", "0/1:2", " 0/1/2", "0/1/2 ", strings.Repeat("/", 1000)} {
		if l, e := catch.Errno(func() []string { return parts.Decimals(text, "/", 3) }); l != nil || e != api.ErrForm {
			t.Errorf("%q: %q %v", text, l, e)
		}
	}
}

func TestOptional(t *testing.T) {
	for text, word := range map[string]string{"": "-", "a": "a", "A!": "A!", "--": "--"} {
		if told := parts.Optional(text); told != word {
			t.Errorf("%q: told %q", text, told)
		}
		if read, e := catch.Errno(func() string { return parts.ReadOptional(word) }); read != text || e != api.OK {
			t.Errorf("%q: read %q %v", word, read, e)
		}
	}
	if read, e := catch.Errno(func() string { return parts.ReadOptional("") }); read != "" || e != api.ErrForm {
		t.Errorf("an empty word: read %q %v", read, e)
	}
}

func TestNumber(t *testing.T) {
	for text, want := range map[string]int{"0": 0, "7": 7, "10": 10, "2147483646": 1<<31 - 2, "2147483647": 1<<31 - 1} {
		if n, e := catch.Errno(func() int { return parts.Number(text) }); n != want || e != api.OK {
			t.Errorf("%q: %d %v", text, n, e)
		}
	}
	for _, text := range append(notDecimals(), "2147483648", "9223372036854775808", strings.Repeat("9", 1000)) {
		if n, e := catch.Errno(func() int { return parts.Number(text) }); n != 0 || e != api.ErrForm {
			t.Errorf("%q: %d %v", text, n, e)
		}
	}
}

func notDecimals() []string {
	return []string{"", "-", "-1", "-0", "+1", "00", "01", "1_0", "0x1", "1e3", "1.0", " 1", "1 ", "１", "a", "0" + strings.Repeat("9", 1000)}
}

func TestQuantity(t *testing.T) {
	for text, want := range map[string]int64{"0": 0, "7": 7, "10": 10, "2147483648": 1 << 31, "9223372036854775806": 1<<63 - 2, "9223372036854775807": 1<<63 - 1} {
		if n, e := catch.Errno(func() int64 { return parts.Quantity(text) }); n != want || e != api.OK {
			t.Errorf("%q: %d %v", text, n, e)
		}
	}
	for _, text := range notDecimals() {
		if n, e := catch.Errno(func() int64 { return parts.Quantity(text) }); n != 0 || e != api.ErrForm {
			t.Errorf("%q: %d %v", text, n, e)
		}
	}
	for _, text := range []string{"9223372036854775808", "18446744073709551615", "18446744073709551616", strings.Repeat("9", 1000)} {
		if n, e := catch.Errno(func() int64 { return parts.Quantity(text) }); n != 0 || e != api.ErrOver {
			t.Errorf("%q: %d %v", text, n, e)
		}
	}
}
