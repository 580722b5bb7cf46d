package rows_test

import (
	"slices"
	"testing"

	"ballast/api"
	"ballast/rows"
)

type thing struct {
	name string
	list []int
}

func nameOf(x thing) string { return x.name }

// checked refuses a thing without a list.
func checked(x thing) api.Errno {
	if len(x.list) == 0 {
		return api.ErrArg
	}
	return api.OK
}

func copied(x thing) thing {
	x.list = slices.Clone(x.list)
	return x
}

func row(names ...string) []thing {
	var l []thing
	for i, name := range names {
		l = append(l, thing{name, []int{i}})
	}
	return l
}

func TestCheck(t *testing.T) {
	bad := thing{name: "a"}
	for _, c := range []struct {
		l    []thing
		want api.Errno
	}{
		{nil, api.OK},
		{row("b"), api.OK},
		{row("a", "aa", "b"), api.OK},
		{row("a", "aa", "b", "c"), api.ErrLong},
		{append(row("b", "a", "c"), bad), api.ErrLong},
		{row("b", "a"), api.ErrOrder},
		{row("a", "b", "b"), api.ErrOrder},
		{append(row("b"), bad), api.ErrArg},
		{append(row("b", "a"), bad), api.ErrOrder},
		{[]thing{bad}, api.ErrArg},
	} {
		if e := rows.Check(c.l, 3, nameOf, checked); e != c.want {
			t.Errorf("%v: %v; want %v", c.l, e, c.want)
		}
	}
}

// Numbers are no names: 10 is behind 9, and -1 ahead of 0.
func TestCheckByNumbers(t *testing.T) {
	for _, c := range []struct {
		l    []int64
		want api.Errno
	}{
		{nil, api.OK},
		{[]int64{-1, 0, 9, 10}, api.OK},
		{[]int64{-1 << 63, 1<<63 - 1}, api.OK},
		{[]int64{10, 9}, api.ErrOrder},
		{[]int64{9, 9}, api.ErrOrder},
		{[]int64{0, -1}, api.ErrOrder},
		{[]int64{9, 10, 7}, api.ErrArg},
		{[]int64{10, 9, 7}, api.ErrOrder},
		{[]int64{5, 4, 3, 2, 1}, api.ErrLong},
	} {
		if e := rows.Check(c.l, 4, itself, notSeven); e != c.want {
			t.Errorf("%v: %v; want %v", c.l, e, c.want)
		}
	}
}

func itself(n int64) int64 { return n }

func notSeven(n int64) api.Errno {
	if n == 7 {
		return api.ErrArg
	}
	return api.OK
}

func TestFind(t *testing.T) {
	l := row("b", "a", "b")
	x, there := rows.Find(l, "b", nameOf, copied)
	if !there || x.name != "b" || x.list[0] != 0 {
		t.Errorf("%v %v", x, there)
	}
	x.list[0] = 77
	if l[0].list[0] != 0 {
		t.Error("the list is the row's own")
	}
	if x, there = rows.Find(l, "c", nameOf, copied); there || x.name != "" || x.list != nil {
		t.Errorf("%v %v", x, there)
	}
}
