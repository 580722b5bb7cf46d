package catch_test

import (
	"slices"
	"testing"

	"ballast/api"
	"ballast/catch"
)

func TestErrnoAnswersWhatIsMade(t *testing.T) {
	if n, e := catch.Errno(func() int { return 7 }); n != 7 || e != api.OK {
		t.Errorf("%d %v", n, e)
	}
}

func TestErrnoAnswersWhatGoesOut(t *testing.T) {
	l, e := catch.Errno(func() []int {
		for i := range 3 {
			if i == 2 {
				panic(api.ErrForm)
			}
		}
		return []int{1}
	})
	if l != nil || e != api.ErrForm {
		t.Errorf("%v %v", l, e)
	}
}

func TestSoundHandsOnWhatIsMade(t *testing.T) {
	n, e := catch.Errno(func() int { return catch.Sound(7, api.OK) })
	if n != 7 || e != api.OK {
		t.Errorf("%d %v", n, e)
	}
}

func TestSoundGoesOutWithTheError(t *testing.T) {
	n, e := catch.Errno(func() int { return catch.Sound(7, api.ErrOver) + 1 })
	if n != 0 || e != api.ErrOver {
		t.Errorf("%d %v", n, e)
	}
}

type thing struct {
	name  string
	parts []int
}

func TestFoundAnswersWhatGoesOut(t *testing.T) {
	x, there := catch.Found[thing](func() {
		for i := range 3 {
			for j := range 3 {
				if i+j == 3 {
					panic(thing{"this", []int{i, j}})
				}
			}
		}
	})
	if !there || x.name != "this" || !slices.Equal(x.parts, []int{1, 2}) {
		t.Errorf("%v %t", x, there)
	}
	// one that is zero is found all the same
	if n, there := catch.Found[int](func() { panic(0) }); n != 0 || !there {
		t.Errorf("%d %t", n, there)
	}
}

func TestFoundOfNone(t *testing.T) {
	if x, there := catch.Found[thing](func() {}); x.name != "" || x.parts != nil || there {
		t.Errorf("%v %t", x, there)
	}
}

// What is found inside of a search goes no further than that.
func TestFoundInsideOfFound(t *testing.T) {
	n, there := catch.Found[int](func() {
		for i := range 3 {
			if m, there := catch.Found[int](func() { panic(i * 10) }); there && m > 0 {
				panic(m + 1)
			}
		}
	})
	if n != 11 || !there {
		t.Errorf("%d %t", n, there)
	}
}
