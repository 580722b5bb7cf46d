package trial_test

import (
	"slices"
	"testing"

	"ballast/api"
	"ballast/res"
	"ballast/trial"
)

func TestNoNamesAreNames(t *testing.T) {
	for _, s := range append(trial.NotNames(), trial.Spaced()...) {
		if s == "" || res.Name(s) {
			t.Errorf("%q", s)
		}
	}
}

func TestTexts(t *testing.T) {
	if l := slices.Collect(trial.Texts("ab", 2)); !slices.Equal(l, []string{"a", "b", "aa", "ab", "ba", "bb"}) {
		t.Errorf("%q", l)
	}
	for text := range trial.Texts("ab", 2) {
		if text == "b" {
			break
		}
	}
}

func TestOverwrite(t *testing.T) {
	whole := []int{1, 2, 3}
	trial.Overwrite(whole[:1], 7)
	if !slices.Equal(whole, []int{7, 7, 7}) {
		t.Errorf("%v", whole)
	}
}

func TestWith(t *testing.T) {
	if text := trial.With("a b c", 1, "x y"); text != "a x y c" {
		t.Errorf("%q", text)
	}
}

func TestWrongTexts(t *testing.T) {
	wrong := trial.Wrong
	groups := [][]trial.Word{{wrong(0, "x", 1), wrong(1, "y", 2)}, {wrong(1, "z", 3)}}
	var texts []string
	var told []api.Errno
	for text, want := range trial.WrongTexts("a b", groups) {
		texts, told = append(texts, text), append(told, want)
	}
	if !slices.Equal(texts, []string{"x b", "x z", "a y", "a y", "a z"}) || !slices.Equal(told, []api.Errno{1, 1, 2, 2, 3}) {
		t.Errorf("%q %d", texts, told)
	}
	for text := range trial.WrongTexts("a b", groups) {
		if text == "x z" {
			break
		}
	}
}

func TestFaulty(t *testing.T) {
	adds := func(n int) trial.Fault[int] {
		return trial.Spoilt(api.Errno(n), func(x *int) { *x = *x*10 + n })
	}
	groups := [][]trial.Fault[int]{{adds(1), adds(2)}, {adds(3)}}
	var made []int
	var told []api.Errno
	for x, want := range trial.Faulty(func() int { return 7 }, groups) {
		made, told = append(made, x), append(told, want)
	}
	if !slices.Equal(made, []int{71, 731, 72, 732, 73}) || !slices.Equal(told, []api.Errno{1, 1, 2, 2, 3}) {
		t.Errorf("%d %d", made, told)
	}
	for x := range trial.Faulty(func() int { return 7 }, groups) {
		if x == 72 {
			break
		}
	}
}
