package res

import (
	"strings"

	"ballast/api"
	"ballast/catch"
	"ballast/parts"
)

const (
	none    = "-"
	between = ","
	equals  = "="
)

// checked panics with what is wrong with v: who calls it is inside of catch.Errno. So are all below that panic.
func checked(v Vec) Vec {
	refuseLong(v)
	for i, a := range v {
		switch {
		case !Name(a.Name):
			panic(api.ErrName)
		case a.N <= 0:
			panic(api.ErrArg)
		case i > 0 && a.Name <= v[i-1].Name:
			panic(api.ErrOrder)
		}
	}
	return v
}

func refuseLong(v Vec) {
	if len(v) > api.MaxList {
		panic(api.ErrLong)
	}
}

// reckoning is one of qty's calls with two numbers.
type reckoning func(x, y int64) (int64, api.Errno)

// merged goes over the names of both at once; one that a Vec lacks counts as 0 there.
func merged(a, b Vec, reckon reckoning) Vec {
	a, b = checked(a), checked(b)
	var v Vec
	for len(a) > 0 || len(b) > 0 {
		name := foremost(a, b)
		var x, y int64
		x, a = taken(a, name)
		y, b = taken(b, name)
		v = with(v, name, catch.Sound(reckon(x, y)))
	}
	// Asked at the end: an error of any name is ahead of too many names.
	refuseLong(v)
	return v
}

// foremost is the least of the names that are left; one of a and b has some.
func foremost(a, b Vec) string {
	if len(a) == 0 || len(b) > 0 && b[0].Name < a[0].Name {
		return b[0].Name
	}
	return a[0].Name
}

func taken(v Vec, name string) (int64, Vec) {
	if len(v) == 0 || v[0].Name != name {
		return 0, v
	}
	return v[0].N, v[1:]
}

func each(v Vec, by int64, reckon reckoning) Vec {
	var made Vec
	for _, a := range checked(v) {
		made = with(made, a.Name, catch.Sound(reckon(a.N, by)))
	}
	return made
}

func with(v Vec, name string, n int64) Vec {
	if n == 0 {
		return v
	}
	return append(v, Amount{Name: name, N: n})
}

// parsed asks for the form of all parts ahead of their numbers, and for these ahead of what Check asks for.
func parsed(s string) Vec {
	for part := range strings.SplitSeq(s, between) {
		refuseForm(part)
	}
	var v Vec
	for part := range strings.SplitSeq(s, between) {
		a := amount(part)
		// One too many is enough to be refused, however many there are.
		if len(v) <= api.MaxList {
			v = append(v, a)
		}
	}
	return owned(checked(v))
}

// Without just one `=`, too, what is behind the first one is no decimal.
func refuseForm(part string) {
	_, number, _ := strings.Cut(part, equals)
	if !parts.IsDecimal(number) {
		panic(api.ErrForm)
	}
}

func amount(part string) Amount {
	name, number, _ := strings.Cut(part, equals)
	return Amount{Name: name, N: parts.Quantity(number)}
}

// owned takes names of its own: a piece of a text keeps the whole text.
func owned(v Vec) Vec {
	for i := range v {
		v[i].Name = strings.Clone(v[i].Name)
	}
	return v
}
