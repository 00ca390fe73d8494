package shade_test

import (
	"slices"
	"strconv"
	"testing"

	"instar/api"
	"instar/sample"
	"instar/shade"
)

// untouched checks that a call leaves the forest that it is given as it is.
func untouched(t *testing.T, what string, f api.Forest, call func(f api.Forest)) {
	t.Helper()
	if !sample.Untouched(f, call) {
		t.Errorf("%s: changed what was handed in", what)
	}
}

// P4.2: Top and Connected of each node of the grove, told one by one.
func TestTop(t *testing.T) {
	f := sample.Grove()
	tops := map[int][]int{
		0: {0, 3, 2, 4, 1, 6, 5, 12, 7, 10, 13, 9, 8, 14}, 11: {11, 15, 16, 17, 18, 19}, 20: {20}, 21: {21, 22}, 23: {23, 24, 25}, 26: {26},
	}
	told := 0
	for top, all := range tops {
		for _, n := range all {
			told++
			if at := shade.Top(f, n); at != top {
				t.Errorf("Top(%d) = %d, not %d", n, at, top)
			}
			if shade.Connected(f, n) != (top == 0 || top == 20) {
				t.Errorf("Connected(%d) is wrong", n)
			}
		}
	}
	if told != len(f.Nodes) {
		t.Errorf("%d nodes told of, there are %d", told, len(f.Nodes))
	}
}

// P4.2: All and Elems of nodes of the grove, told one by one.
func TestAll(t *testing.T) {
	f := sample.Grove()
	for n, want := range map[int][]int{
		0:  {0, 3, 12, 7, 13, 9, 8, 10, 2, 14, 4, 1, 6, 5},
		3:  {3, 12, 7, 13, 9, 8, 10, 2, 14, 4, 1, 6, 5},
		12: {12, 7, 13, 9, 8, 10}, 7: {7, 13, 9, 8}, 13: {13, 9, 8}, 2: {2, 14, 4, 1}, 14: {14}, 5: {5}, 6: {6},
		11: {11, 15, 16, 17, 18, 19}, 17: {17, 18, 19}, 18: {18, 19}, 20: {20}, 21: {21, 22}, 23: {23, 24, 25}, 26: {26},
	} {
		if l := shade.All(f, n); !slices.Equal(l, want) {
			t.Errorf("All(%d) = %v, not %v", n, l, want)
		}
	}
	for n, want := range map[int][]int{
		0: {3, 7, 8, 2, 1, 5}, 3: {3, 7, 8, 2, 1, 5}, 12: {7, 8}, 13: {8}, 2: {2, 1}, 14: nil, 11: {15, 17, 19}, 20: nil, 23: {23, 25}, 24: {25}, 26: nil, 5: {5},
	} {
		if l := shade.Elems(f, n); !slices.Equal(l, want) {
			t.Errorf("Elems(%d) = %v, not %v", n, l, want)
		}
	}
}

// P4.2: a node is over itself, over what it holds, and over what hangs in shadows below; over nobody else.
func TestOver(t *testing.T) {
	f := sample.Grove()
	for _, c := range []struct {
		a, b int
		over bool
	}{
		{0, 0, true}, {0, 3, true}, {0, 12, true}, {0, 8, true}, {0, 14, true}, {3, 12, true}, {3, 7, true}, {3, 13, true}, {3, 8, true}, {7, 13, true}, {7, 9, true}, {12, 8, true}, {2, 14, true}, {2, 1, true}, {11, 19, true}, {23, 25, true}, {26, 26, true},
		{3, 0, false}, {12, 3, false}, {8, 7, false}, {7, 10, false}, {10, 7, false}, {12, 2, false}, {2, 12, false}, {14, 2, false}, {14, 1, false}, {1, 14, false}, {0, 11, false}, {0, 20, false}, {20, 21, false}, {20, 25, false}, {21, 20, false}, {0, 26, false}, {26, 0, false}, {15, 17, false},
	} {
		if shade.Over(f, c.a, c.b) != c.over {
			t.Errorf("Over(%d, %d) = %v", c.a, c.b, !c.over)
		}
	}
}

// The chapter's example.
func TestExample(t *testing.T) {
	f := sample.Forest(9, sample.Elem("div"), sample.Elem("b"), sample.Elem("i"))
	sample.Hang(f, 1, 2)
	f, s, err := shade.Attach(f, 1)
	if err != api.OK {
		t.Fatal(err)
	}
	sample.Hang(f, s, 3)
	if l := shade.All(f, 1); !slices.Equal(l, []int{1, s, 3, 2}) {
		t.Error(l)
	}
}

// checkWords holds all that is asked of f, of some of its nodes, against the chapter's words.
func checkWords(t *testing.T, what string, f api.Forest) {
	t.Helper()
	for _, a := range sample.Some(f) {
		top := topByWords(f, a)
		if at := shade.Top(f, a); at != top {
			t.Errorf("%s: Top(%d) = %d, not %d", what, a, at, top)
		}
		if shade.Connected(f, a) != (f.Nodes[top].Kind == api.Doc) {
			t.Errorf("%s: Connected(%d) is wrong", what, a)
		}
		all, elems := shade.All(f, a), shade.Elems(f, a)
		if !slices.Equal(all, fullByWords(f, a)) || !slices.Equal(elems, elemsByWords(f, a)) {
			t.Errorf("%s: of %d All is %v, Elems %v", what, a, all, elems)
		}
		for _, b := range sample.Some(f) {
			if shade.Over(f, a, b) != overByWords(f, a, b) {
				t.Errorf("%s: Over(%d, %d) is wrong", what, a, b)
			}
		}
	}
}

// P4.2: all right forests, by the chapter's words; they stay as they are.
func TestWords(t *testing.T) {
	for what, f := range sample.Right() {
		untouched(t, what, f, func(f api.Forest) { checkWords(t, what, f) })
	}
}

// P4.2, P4.3: forests that chance has put together.
func TestTangles(t *testing.T) {
	for seed := range 200 {
		f := sample.Tangle(seed)
		what := "tangle " + strconv.Itoa(seed)
		untouched(t, what, f, func(f api.Forest) {
			checkWords(t, what, f)
			checkOnce(t, what, f)
		})
	}
}

// checkOnce checks that full order from a node has just those that it is over, each once.
func checkOnce(t *testing.T, what string, f api.Forest) {
	t.Helper()
	for _, a := range sample.Some(f) {
		times := make([]int, len(f.Nodes))
		for _, at := range shade.All(f, a) {
			times[at]++
		}
		for b, count := range times {
			want := 0
			if shade.Over(f, a, b) {
				want = 1
			}
			if count != want {
				t.Errorf("%s: All(%d) has %d %d times", what, a, b, count)
			}
		}
	}
}

// P4.3: full order has just the nodes that n is over, each once.
func TestOnce(t *testing.T) {
	for what, f := range sample.Right() {
		checkOnce(t, what, f)
	}
}

// checkNothing checks that of these nodes nothing is told.
func checkNothing(t *testing.T, what string, f api.Forest, a, b int) {
	t.Helper()
	if shade.Over(f, a, b) || shade.Over(f, b, a) {
		t.Errorf("%s: Over(%d, %d), or the other way round", what, a, b)
	}
	if top, all, elems := shade.Top(f, a), shade.All(f, a), shade.Elems(f, a); top != api.None || len(all) > 0 || len(elems) > 0 || shade.Connected(f, a) {
		t.Errorf("%s: of %d: Top %d, All %v, Elems %v, or it is connected", what, a, top, all, elems)
	}
}

// P4.2: of a node that isn't there nothing is told, whichever of two it is.
func TestNoSuchNode(t *testing.T) {
	for what, f := range sample.Right() {
		for _, wrong := range sample.WrongNumbers(f) {
			checkNothing(t, what, f, wrong, wrong)
			checkNothing(t, what, f, wrong, 0)
			checkNothing(t, what, f, wrong, len(f.Nodes)-1)
		}
	}
}

// P4.2: of a forest that isn't right nothing is told, of no node, and it stays as it is.
func TestNothingOfWrong(t *testing.T) {
	for what, f := range sample.Wrong() {
		untouched(t, what, f, func(f api.Forest) {
			for n := -1; n <= len(f.Nodes); n++ {
				checkNothing(t, what, f, n, n)
				checkNothing(t, what, f, n, 0)
			}
		})
	}
}

// P4.2: an answer is the caller's own: who changes it changes no other one.
func TestOwn(t *testing.T) {
	f := sample.Grove()
	for _, ask := range []func(f api.Forest, n int) []int{shade.All, shade.Elems} {
		want := ask(f, 0)
		l := ask(f, 0)
		for i := range l[:cap(l)] {
			l[:cap(l)][i] = 999
		}
		if !slices.Equal(ask(f, 0), want) || !sample.Same(f, sample.Grove()) {
			t.Error("an answer shares memory")
		}
	}
}
