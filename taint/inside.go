package taint

import (
	"slices"
	"strings"

	"ballast/api"
	"ballast/res"
)

const (
	is      = ":"
	hard    = "!"
	allKeys = "*"
)

func isAhead(l []Taint, t Taint) bool {
	// Not the whole Taint: a hard and a soft one of the same Key and Val are one twice.
	return slices.ContainsFunc(l, func(o Taint) bool { return o.Key == t.Key && o.Val == t.Val })
}

func isNamed(o Tol) bool {
	if o.Key != "" && !res.Name(o.Key) {
		return false
	}
	if o.Any {
		return o.Val == ""
	}
	return res.Name(o.Val)
}

func bears(o Tol, t Taint) bool {
	return (o.Key == "" || o.Key == t.Key) && (o.Any || o.Val == t.Val)
}

func taintText(t Taint) string {
	text := t.Key + is + t.Val
	if t.Hard {
		return text + hard
	}
	return text
}

func tolText(o Tol) string {
	key := o.Key
	if key == "" {
		key = allKeys
	}
	if o.Any {
		return key
	}
	return key + is + o.Val
}

// readTaint refuses an empty part, too: it has no `:`.
func readTaint(part string) Taint {
	if strings.Count(part, is) != 1 {
		panic(api.ErrForm)
	}
	soft, isHard := strings.CutSuffix(part, hard)
	key, val, _ := strings.Cut(soft, is)
	return Taint{Key: key, Val: val, Hard: isHard}
}

// readTol refuses a part that begins with `:`: a Tol without a Key would else be written in two ways.
func readTol(part string) Tol {
	if part == "" || strings.HasPrefix(part, is) || strings.Count(part, is) > 1 {
		panic(api.ErrForm)
	}
	key, val, found := strings.Cut(part, is)
	if key == allKeys {
		key = ""
	}
	return Tol{Key: key, Val: val, Any: !found}
}
