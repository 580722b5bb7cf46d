package trial_test

import (
	"slices"
	"testing"

	"ballast/res"
	"ballast/trial"
)

func TestNoNamesAreNames(t *testing.T) {
	for _, s := range append(trial.NotNames(), trial.Spaced()...) {
		if s == "" || res.Name(s) {
			t.Errorf("%q", s)
		}
	}
}

func TestTexts(t *testing.T) {
	if l := slices.Collect(trial.Texts("ab", 2)); !slices.Equal(l, []string{"a", "b", "aa", "ab", "ba", "bb"}) {
		t.Errorf("%q", l)
	}
	for text := range trial.Texts("ab", 2) {
		if text == "b" {
			break
		}
	}
}

func TestOverwrite(t *testing.T) {
	whole := []int{1, 2, 3}
	trial.Overwrite(whole[:1], 7)
	if !slices.Equal(whole, []int{7, 7, 7}) {
		t.Errorf("%v", whole)
	}
}
