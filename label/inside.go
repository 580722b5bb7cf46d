package label

import (
	"strings"

	"ballast/api"
	"ballast/res"
)

const (
	none    = "-"
	between = ","
	is      = ":"
	not     = "!"
	lacks   = "-"
)

func checkTerm(t Term) api.Errno {
	switch t.Op {
	case Is, Not:
		return nameError(res.Name(t.Key) && res.Name(t.Val))
	case Has, Lacks:
		return nameError(res.Name(t.Key) && t.Val == "")
	}
	return api.ErrArg
}

func nameError(sound bool) api.Errno {
	if sound {
		return api.OK
	}
	return api.ErrName
}

func holds(t Term, s Set) bool {
	val, there := Get(s, t.Key)
	switch t.Op {
	case Is:
		return there && val == t.Val
	case Not:
		return !there || val != t.Val
	case Has:
		return there
	case Lacks:
		return !there
	}
	return false
}

func joined[T any](l []T, tell func(T) string) string {
	if len(l) == 0 {
		return none
	}
	parts := make([]string, len(l))
	for i, x := range l {
		parts[i] = tell(x)
	}
	return strings.Join(parts, between)
}

func pairText(p Pair) string { return p.Key + is + p.Val }

func termText(t Term) string {
	switch t.Op {
	case Is:
		return t.Key + is + t.Val
	case Not:
		return t.Key + not + t.Val
	case Lacks:
		return lacks + t.Key
	}
	return t.Key
}

// caught answers what work makes, or the error that goes out of it by a panic.
func caught[L any](work func() L) (l L, e api.Errno) {
	defer func() {
		if r := recover(); r != nil {
			e = r.(api.Errno)
		}
	}()
	return work(), api.OK
}

// parsed panics with what is wrong with s: who calls it is inside of caught. It makes all parts ahead of the check, as a form that is none is told first, wherever it stands.
func parsed[L ~[]T, T any](s string, made func(part string) T, check func(L) api.Errno) L {
	if s == none {
		return nil
	}
	var l L
	// Cloned: what is answered keeps no piece of the text that was handed in.
	for part := range strings.SplitSeq(strings.Clone(s), between) {
		x := made(part)
		// One too many is enough to be refused, however many there are.
		if len(l) <= api.MaxList {
			l = append(l, x)
		}
	}
	if e := check(l); e != api.OK {
		panic(e)
	}
	return l
}

// pair refuses an empty part, too: it has no `:`.
func pair(part string) Pair {
	key, val, found := strings.Cut(part, is)
	if !found || strings.Contains(val, is) {
		panic(api.ErrForm)
	}
	return Pair{Key: key, Val: val}
}

func term(part string) Term {
	signs := strings.Count(part, is) + strings.Count(part, not)
	rest, ahead := strings.CutPrefix(part, lacks)
	switch {
	case part == "", signs > 1, signs == 1 && ahead:
		panic(api.ErrForm)
	case ahead:
		return Term{Op: Lacks, Key: rest}
	case signs == 0:
		return Term{Op: Has, Key: part}
	}
	if key, val, found := strings.Cut(part, is); found {
		return Term{Op: Is, Key: key, Val: val}
	}
	key, val, _ := strings.Cut(part, not)
	return Term{Op: Not, Key: key, Val: val}
}
