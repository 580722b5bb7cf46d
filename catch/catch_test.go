package catch_test

import (
	"testing"

	"ballast/api"
	"ballast/catch"
)

func TestErrnoAnswersWhatIsMade(t *testing.T) {
	if n, e := catch.Errno(func() int { return 7 }); n != 7 || e != api.OK {
		t.Errorf("%d %v", n, e)
	}
}

func TestErrnoAnswersWhatGoesOut(t *testing.T) {
	l, e := catch.Errno(func() []int {
		for i := range 3 {
			if i == 2 {
				panic(api.ErrForm)
			}
		}
		return []int{1}
	})
	if l != nil || e != api.ErrForm {
		t.Errorf("%v %v", l, e)
	}
}

func TestSoundHandsOnWhatIsMade(t *testing.T) {
	n, e := catch.Errno(func() int { return catch.Sound(7, api.OK) })
	if n != 7 || e != api.OK {
		t.Errorf("%d %v", n, e)
	}
}

func TestSoundGoesOutWithTheError(t *testing.T) {
	n, e := catch.Errno(func() int { return catch.Sound(7, api.ErrOver) + 1 })
	if n != 0 || e != api.ErrOver {
		t.Errorf("%d %v", n, e)
	}
}
