package trial_test

import (
	"slices"
	"strings"
	"testing"

	"ballast/api"
	"ballast/pod"
	"ballast/res"
	"ballast/state"
	"ballast/text"
	"ballast/trial"
)

func TestNoNamesAreNames(t *testing.T) {
	for _, s := range append(trial.NotNames(), trial.Spaced()...) {
		if s == "" || res.Name(s) {
			t.Errorf("%q", s)
		}
	}
}

func TestTexts(t *testing.T) {
	if l := slices.Collect(trial.Texts("ab", 2)); !slices.Equal(l, []string{"a", "b", "aa", "ab", "ba", "bb"}) {
		t.Errorf("%q", l)
	}
	for text := range trial.Texts("ab", 2) {
		if text == "b" {
			break
		}
	}
}

func TestOverwrite(t *testing.T) {
	whole := []int{1, 2, 3}
	trial.Overwrite(whole[:1], 7)
	if !slices.Equal(whole, []int{7, 7, 7}) {
		t.Errorf("%v", whole)
	}
}

func TestWith(t *testing.T) {
	if text := trial.With("a b c", 1, "x y"); text != "a x y c" {
		t.Errorf("%q", text)
	}
}

func TestWrongTexts(t *testing.T) {
	wrong := trial.Wrong
	groups := [][]trial.Word{{wrong(0, "x", 1), wrong(1, "y", 2)}, {wrong(1, "z", 3)}}
	var texts []string
	var told []api.Errno
	for text, want := range trial.WrongTexts("a b", groups) {
		texts, told = append(texts, text), append(told, want)
	}
	if !slices.Equal(texts, []string{"x b", "x z", "a y", "a y", "a z"}) || !slices.Equal(told, []api.Errno{1, 1, 2, 2, 3}) {
		t.Errorf("%q %d", texts, told)
	}
	for text := range trial.WrongTexts("a b", groups) {
		if text == "x z" {
			break
		}
	}
}

func TestFaulty(t *testing.T) {
	adds := func(n int) trial.Fault[int] {
		return trial.Spoilt(api.Errno(n), func(x *int) { *x = *x*10 + n })
	}
	groups := [][]trial.Fault[int]{{adds(1), adds(2)}, {adds(3)}}
	var made []int
	var told []api.Errno
	for x, want := range trial.Faulty(func() int { return 7 }, groups) {
		made, told = append(made, x), append(told, want)
	}
	if !slices.Equal(made, []int{71, 731, 72, 732, 73}) || !slices.Equal(told, []api.Errno{1, 1, 2, 2, 3}) {
		t.Errorf("%d %d", made, told)
	}
	for x := range trial.Faulty(func() int { return 7 }, groups) {
		if x == 72 {
			break
		}
	}
}

// panics: what goes out of work is a text that has this in it.
func panics(t *testing.T, work func(), want string) {
	t.Helper()
	defer func() {
		t.Helper()
		if told, _ := recover().(string); !strings.Contains(told, want) {
			t.Errorf("%q; want %q in it", told, want)
		}
	}()
	work()
}

const oneOfEach = "node a cpu=3 zone:x k:v up\npod p web 0 cpu=1 app:web zone k zone/1 a real\nbudget low app:web 1\n"

func TestCluster(t *testing.T) {
	s := trial.Cluster("node a cpu=3 zone:x k:v up\npod p web 0 cpu=1 app:web zone k zone/1 a real", "budget low app:web 1")
	if told := text.Text(s); told != oneOfEach {
		t.Errorf("%q", told)
	}
	panics(t, func() { trial.Cluster("node a - - - up", "node b") }, "line 1: form")
	panics(t, func() { trial.Cluster("pod p web 0 - - - - - a real") }, "line 1: name")
}

func TestKnown(t *testing.T) {
	s := trial.Cluster(oneOfEach)
	if p := trial.Known(s, "p"); !pod.Same(p, s.Pods[0]) {
		t.Errorf("%q", pod.Text(p))
	}
	panics(t, func() { trial.Known(s, "q") }, "q")
}

func TestComer(t *testing.T) {
	if p := trial.Comer("p web 0 cpu=1 - - - - - real"); pod.Text(p) != "p web 0 cpu=1 - - - - - real" {
		t.Errorf("%q", pod.Text(p))
	}
	panics(t, func() { trial.Comer("p web") }, "p web: form")
}

func TestAmounts(t *testing.T) {
	if told := res.Text(trial.Amounts("x", 3)); told != "x0=1,x1=1,x2=1" || len(trial.Amounts("x", 0)) != 0 {
		t.Errorf("%q", told)
	}
}

func TestNodeNames(t *testing.T) {
	if l := trial.NodeNames(trial.Cluster("node b - - - up", "node a - - - cordon")); !slices.Equal(l, []string{"a", "b"}) {
		t.Errorf("%q", l)
	}
}

func TestPlacings(t *testing.T) {
	s := trial.Cluster("node a - - - up", "node b - - - up", "pod p - 0 - - - - - b real", "pod q - 0 - - - - - - real")
	var told []string
	for moved := range trial.Placings(s) {
		told = append(told, trial.Known(moved, "p").Node+"/"+trial.Known(moved, "q").Node)
	}
	if !slices.Equal(told, []string{"a/a", "b/a", "/a", "a/b", "b/b", "/b", "a/", "b/", "/"}) {
		t.Errorf("%q", told)
	}
	for moved := range trial.Placings(s) {
		if trial.Known(moved, "p").Node == "b" {
			break
		}
	}
}

// What is wild no check takes, but for the cluster that has nothing.
func TestWild(t *testing.T) {
	for i, s := range trial.WildClusters() {
		if (state.Check(s) == api.OK) != (i == 0) {
			t.Errorf("cluster %d: %v", i, state.Check(s))
		}
	}
	for i, p := range trial.WildPods() {
		if pod.Check(p) == api.OK {
			t.Errorf("pod %d", i)
		}
	}
}

func TestWithRoom(t *testing.T) {
	whole := []int{1, 2, 3}
	l := trial.WithRoom(whole[:2], 7)
	if !slices.Equal(whole, []int{1, 2, 3}) || !slices.Equal(l, []int{1, 2}) || cap(l) < 4 || !slices.Equal(l[:4], []int{1, 2, 7, 7}) {
		t.Errorf("%v %v", whole, l[:cap(l)])
	}
}

// Room is where it does not tell; with it a change in it does, and it shares nothing with what it is told of.
func TestRoomyAndWithSpare(t *testing.T) {
	sound := trial.Cluster(oneOfEach)
	s := trial.Roomy(sound, "web", "a")
	before := text.Text(trial.WithSpare(s))
	if text.Text(sound) != oneOfEach || text.Text(s) != oneOfEach || before == oneOfEach {
		t.Errorf("%q, %q, %q", text.Text(sound), text.Text(s), before)
	}
	n, p, b := s.Nodes[0], s.Pods[0], s.Budgets[0]
	for i, change := range []func(){
		func() { s.Nodes[:2][1].Name = "mine" },
		func() { s.Pods[:2][1].Name = "mine" },
		func() { s.Budgets[:2][1].Name = "mine" },
		func() { n.Cap[:2][1].Name = "mine" },
		func() { n.Labels[:2][1].Key = "mine" },
		func() { n.Taints[:2][1].Key = "mine" },
		func() { p.Need[:2][1].Name = "mine" },
		func() { p.Labels[:2][1].Key = "mine" },
		func() { p.Sel[:2][1].Key = "mine" },
		func() { p.Tols[:2][1].Key = "mine" },
		func() { b.Sel[:2][1].Key = "mine" },
	} {
		was := trial.WithSpare(s)
		told := text.Text(was)
		change()
		if text.Text(trial.WithSpare(s)) == told || text.Text(was) != told {
			t.Errorf("change %d: %q", i, text.Text(trial.WithSpare(s)))
		}
	}
	if text.Text(s) != oneOfEach {
		t.Errorf("%q", text.Text(s))
	}
}

// All lists are written into, those within others and their spare room, too.
func TestSpoil(t *testing.T) {
	s := trial.Roomy(trial.Cluster(oneOfEach), "web", "a")
	n, p, b := s.Nodes[0], s.Pods[0], s.Budgets[0]
	trial.Spoil(s)
	for i, written := range []bool{
		s.Nodes[0].Name == "mine" && s.Nodes[:2][1].Name == "mine",
		s.Pods[0].Name == "mine" && s.Pods[:2][1].Name == "mine",
		s.Budgets[0].Name == "mine" && s.Budgets[:2][1].Name == "mine",
		n.Cap[0].Name == "mine" && n.Cap[:2][1].Name == "mine",
		n.Labels[0].Key == "mine" && n.Labels[:2][1].Key == "mine",
		n.Taints[0].Key == "mine" && n.Taints[:2][1].Key == "mine",
		p.Need[0].Name == "mine" && p.Need[:2][1].Name == "mine",
		p.Labels[0].Key == "mine" && p.Labels[:2][1].Key == "mine",
		p.Sel[0].Key == "mine" && p.Sel[:2][1].Key == "mine",
		p.Tols[0].Key == "mine" && p.Tols[:2][1].Key == "mine",
		b.Sel[0].Key == "mine" && b.Sel[:2][1].Key == "mine",
	} {
		if !written {
			t.Errorf("list %d", i)
		}
	}
}
