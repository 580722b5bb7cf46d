package parts_test

import (
	"slices"
	"strings"
	"testing"

	"ballast/api"
	"ballast/catch"
	"ballast/parts"
)

func quoted(s string) string { return "<" + s + ">" }

func unquoted(part string) string {
	if len(part) < 2 {
		panic(api.ErrForm)
	}
	return part[1 : len(part)-1]
}

// short refuses as a layer's check does: too many ahead of all, then the first of another length.
func short(l []string) api.Errno {
	if len(l) > api.MaxList {
		return api.ErrLong
	}
	if slices.ContainsFunc(l, func(s string) bool { return len(s) != 1 }) {
		return api.ErrName
	}
	return api.OK
}

func TestText(t *testing.T) {
	for want, l := range map[string][]string{"-": nil, "<a>": {"a"}, "<b>,<a>,<b>": {"b", "a", "b"}} {
		if text := parts.Text(l, quoted); text != want {
			t.Errorf("%q: %q; want %q", l, text, want)
		}
	}
	if text := parts.Text([]string{}, quoted); text != "-" {
		t.Errorf("none: %q", text)
	}
}

func TestParse(t *testing.T) {
	many := strings.Repeat("<a>,", api.MaxList)
	for _, c := range []struct {
		text  string
		count int
		want  api.Errno
	}{
		{"-", 0, api.OK},
		{"<a>", 1, api.OK},
		{"<b>,<a>,<b>", 3, api.OK},
		{many[:len(many)-1], api.MaxList, api.OK},
		{many + "<a>", 0, api.ErrLong},
		{many + many + "<bb>", 0, api.ErrLong},
		{many, 0, api.ErrForm},
		{many + many + "-", 0, api.ErrForm},
		{"<bb>,", 0, api.ErrForm},
		{"", 0, api.ErrForm},
		{"<a>,<bb>", 0, api.ErrName},
	} {
		l, e := catch.Errno(func() []string { return parts.Parse(c.text, unquoted, short) })
		if e != c.want || len(l) != c.count || e == api.OK && parts.Text(l, quoted) != c.text {
			t.Errorf("%q: %q %v; want %d, %v", c.text, l, e, c.count, c.want)
		}
	}
}
