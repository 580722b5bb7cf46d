package label

import (
	"strings"

	"ballast/api"
	"ballast/res"
)

const (
	is    = ":"
	not   = "!"
	lacks = "-"
)

func checkTerm(t Term) api.Errno {
	switch t.Op {
	case Is, Not:
		return nameError(res.Name(t.Key) && res.Name(t.Val))
	case Has, Lacks:
		return nameError(res.Name(t.Key) && t.Val == "")
	}
	return api.ErrArg
}

func nameError(sound bool) api.Errno {
	if sound {
		return api.OK
	}
	return api.ErrName
}

func holds(t Term, s Set) bool {
	val, there := Get(s, t.Key)
	switch t.Op {
	case Is:
		return there && val == t.Val
	case Not:
		return !there || val != t.Val
	case Has:
		return there
	case Lacks:
		return !there
	}
	return false
}

func pairText(p Pair) string { return p.Key + is + p.Val }

func termText(t Term) string {
	switch t.Op {
	case Is:
		return t.Key + is + t.Val
	case Not:
		return t.Key + not + t.Val
	case Lacks:
		return lacks + t.Key
	}
	return t.Key
}

// pair refuses an empty part, too: it has no `:`.
func pair(part string) Pair {
	key, val, found := strings.Cut(part, is)
	if !found || strings.Contains(val, is) {
		panic(api.ErrForm)
	}
	return Pair{Key: key, Val: val}
}

func term(part string) Term {
	signs := strings.Count(part, is) + strings.Count(part, not)
	rest, ahead := strings.CutPrefix(part, lacks)
	switch {
	case part == "", signs > 1, signs == 1 && ahead:
		panic(api.ErrForm)
	case ahead:
		return Term{Op: Lacks, Key: rest}
	case signs == 0:
		return Term{Op: Has, Key: part}
	}
	if key, val, found := strings.Cut(part, is); found {
		return Term{Op: Is, Key: key, Val: val}
	}
	key, val, _ := strings.Cut(part, not)
	return Term{Op: Not, Key: key, Val: val}
}
