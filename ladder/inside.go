package ladder

import (
	"iter"
	"math"
	"strconv"
	"strings"

	"ballast/api"
	"ballast/catch"
	"ballast/parts"
	"ballast/res"
)

const (
	maxPermille = 1000000
	limitsMark  = "/"
	rungMark    = ":"
)

// Where each word of a ladder stands; behind them there is one for each Rung.
const (
	whatAt = iota
	unitAt
	limitsAt
	wordCount
)

func checkWhat(what string) api.Errno {
	if !res.Name(what) {
		return api.ErrName
	}
	return api.OK
}

func checkLimits(least, most int) api.Errno {
	if least < 0 || most < least || most > api.MaxPods {
		return api.ErrArg
	}
	return api.OK
}

func checkRung(r Rung) api.Errno {
	if r.Up < 0 || r.Permille < 0 || r.Permille > maxPermille || r.Count < 0 || r.Count > api.MaxPods {
		return api.ErrArg
	}
	return api.OK
}

func upOf(r Rung) int64 { return r.Up }

func limitsText(least, most int) string {
	return strconv.Itoa(least) + limitsMark + strconv.Itoa(most)
}

func rungText(r Rung) string {
	return strconv.FormatInt(r.Up, 10) + rungMark + strconv.Itoa(r.Count) + rungMark + strconv.FormatInt(r.Permille, 10)
}

// parsed asks for the forms of all numbers ahead of how great they are, for both ahead of the unit's error, and for all words ahead of what Check asks for: a What that is no name is told behind them.
func parsed(s string) Ladder {
	words, rungs := parts.AtLeast(s, wordCount)
	limits := parts.Decimals(words[limitsAt], limitsMark, 2)
	refuseForms(rungs)
	l := Ladder{Min: count(limits[0]), Max: count(limits[1]), Rungs: rungsOf(rungs)}
	// Cloned: what is answered keeps no piece of the text that was handed in.
	l.What = strings.Clone(words[whatAt])
	l.Unit = catch.Sound(res.Parse(words[unitAt]))
	return catch.Sound(l, Check(l))
}

// refuseForms panics with api.ErrForm, those below with api.ErrOver: who calls them is inside of catch.Errno.
func refuseForms(rungs iter.Seq[string]) {
	for word := range rungs {
		rungNumbers(word)
	}
}

func rungNumbers(word string) []string { return parts.Decimals(word, rungMark, 3) }

func rungsOf(words iter.Seq[string]) []Rung {
	var l []Rung
	for word := range words {
		r := rungOf(word)
		// One too many is enough to be refused, however many there are.
		if len(l) <= api.MaxList {
			l = append(l, r)
		}
	}
	return l
}

func rungOf(word string) Rung {
	numbers := rungNumbers(word)
	return Rung{Up: parts.Quantity(numbers[0]), Count: count(numbers[1]), Permille: parts.Quantity(numbers[2])}
}

// count: where an int has 32 bits, what is beyond them must not wrap round to what Check takes.
func count(number string) int { return int(min(parts.Quantity(number), math.MaxInt)) }
