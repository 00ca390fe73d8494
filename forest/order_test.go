package forest_test

import (
	"slices"
	"testing"

	"instar/api"
	"instar/forest"
	"instar/sample"
)

// untouched checks that a call leaves the forest that it is given as it is.
func untouched(t *testing.T, what string, f api.Forest, call func(f api.Forest)) {
	t.Helper()
	if !sample.Untouched(f, call) {
		t.Errorf("%s: changed what was handed in", what)
	}
}

// rootByWords goes up by one step.
func rootByWords(f api.Forest, n int) int {
	if f.Nodes[n].Parent == api.None {
		return n
	}
	return rootByWords(f, f.Nodes[n].Parent)
}

// P3.2: Root and Place, of all right forests.
func TestRootAndPlace(t *testing.T) {
	for what, f := range rightForests(t) {
		untouched(t, what, f, func(f api.Forest) {
			for _, n := range sample.Some(f) {
				if at := forest.Root(f, n); at != rootByWords(f, n) {
					t.Errorf("%s: Root(%d) = %d", what, n, at)
				}
				at := forest.Place(f, n)
				p := f.Nodes[n].Parent
				if p == api.None && at != api.None || p != api.None && (at < 0 || at >= len(f.Nodes[p].Kids) || f.Nodes[p].Kids[at] != n) {
					t.Errorf("%s: Place(%d) = %d", what, n, at)
				}
			}
		})
	}
	f := grove(t)
	for n, want := range map[int][2]int{
		0: {0, -1}, 3: {0, 0}, 2: {0, 0}, 6: {0, 1}, 5: {0, 2}, 4: {0, 0}, 1: {0, 1},
		12: {12, -1}, 7: {12, 0}, 10: {12, 1}, 13: {13, -1}, 9: {13, 0}, 8: {13, 1},
		11: {11, -1}, 14: {11, 0}, 15: {11, 1}, 16: {11, 2}, 17: {17, -1}, 18: {18, -1}, 19: {18, 0}, 20: {20, -1},
	} {
		if got := [2]int{forest.Root(f, n), forest.Place(f, n)}; got != want {
			t.Errorf("Root, Place of %d: %v, not %v", n, got, want)
		}
	}
}

// P3.2: Holds goes by parents alone, up from b; a node holds itself, and a shadow isn't held.
func TestHolds(t *testing.T) {
	for what, f := range rightForests(t) {
		untouched(t, what, f, func(f api.Forest) {
			for _, a := range sample.Some(f) {
				for _, b := range sample.Some(f) {
					want := false
					for at := b; at != api.None; at = f.Nodes[at].Parent {
						want = want || at == a
					}
					if forest.Holds(f, a, b) != want {
						t.Errorf("%s: Holds(%d, %d) = %v", what, a, b, !want)
					}
				}
			}
		})
	}
	f := grove(t)
	for _, c := range []struct {
		a, b  int
		holds bool
	}{
		{0, 0, true}, {0, 3, true}, {0, 1, true}, {3, 1, true}, {2, 1, true}, {1, 1, true}, {20, 20, true}, {12, 7, true}, {13, 8, true}, {18, 19, true},
		{1, 2, false}, {1, 0, false}, {5, 6, false}, {2, 5, false}, {3, 12, false}, {3, 7, false}, {0, 7, false}, {12, 8, false}, {12, 3, false}, {17, 18, false}, {0, 20, false},
	} {
		if forest.Holds(f, c.a, c.b) != c.holds {
			t.Errorf("Holds(%d, %d) = %v", c.a, c.b, !c.holds)
		}
	}
}

// P3.3: Order, of all right forests; its answer is the caller's own.
func TestOrder(t *testing.T) {
	for what, f := range rightForests(t) {
		untouched(t, what, f, func(f api.Forest) {
			for _, n := range sample.Some(f) {
				l := forest.Order(f, n)
				if !slices.Equal(l, orderByWords(f, n)) {
					t.Errorf("%s: Order(%d) = %v", what, n, l)
				}
				for i := range l[:cap(l)] {
					l[:cap(l)][i] = 999
				}
			}
		})
	}
	f := grove(t)
	for n, want := range map[int][]int{
		0: {0, 3, 2, 4, 1, 6, 5}, 3: {3, 2, 4, 1, 6, 5}, 2: {2, 4, 1}, 4: {4}, 1: {1}, 6: {6}, 5: {5},
		12: {12, 7, 10}, 7: {7}, 13: {13, 9, 8}, 11: {11, 14, 15, 16}, 17: {17}, 18: {18, 19}, 20: {20},
	} {
		if l := forest.Order(f, n); !slices.Equal(l, want) {
			t.Errorf("Order(%d) = %v, not %v", n, l, want)
		}
	}
}

// The chapter's example.
func TestExample(t *testing.T) {
	f := plant(t, newForest(t, 400), sample.Elem("p"), sample.Text("a"), sample.Text("b"))
	hang(f, 0, 1)
	hang(f, 1, 2, 3)
	if l := forest.Order(f, 0); !slices.Equal(l, []int{0, 1, 2, 3}) {
		t.Error(l)
	}
}

// P3.3: Ahead goes by tree order from one root; nobody is ahead of itself, nor of who has another root.
func TestAhead(t *testing.T) {
	for what, f := range rightForests(t) {
		untouched(t, what, f, func(f api.Forest) {
			for _, a := range sample.Some(f) {
				order := orderByWords(f, rootByWords(f, a))
				for _, b := range sample.Some(f) {
					at := slices.Index(order, b)
					want := at >= 0 && slices.Index(order, a) < at
					if forest.Ahead(f, a, b) != want {
						t.Errorf("%s: Ahead(%d, %d) = %v", what, a, b, !want)
					}
				}
			}
		})
	}
	f := grove(t)
	for _, c := range []struct {
		a, b  int
		ahead bool
	}{
		{0, 3, true}, {3, 2, true}, {2, 6, true}, {6, 5, true}, {4, 1, true}, {4, 5, true}, {1, 6, true}, {0, 5, true}, {7, 10, true}, {9, 8, true}, {12, 10, true}, {14, 16, true},
		{3, 0, false}, {2, 3, false}, {6, 2, false}, {1, 4, false}, {5, 1, false}, {8, 9, false}, {0, 0, false}, {1, 1, false}, {20, 20, false},
		{0, 12, false}, {3, 7, false}, {7, 3, false}, {12, 13, false}, {7, 8, false}, {0, 11, false}, {17, 18, false}, {18, 17, false}, {0, 17, false}, {0, 20, false},
	} {
		if forest.Ahead(f, c.a, c.b) != c.ahead {
			t.Errorf("Ahead(%d, %d) = %v", c.a, c.b, !c.ahead)
		}
	}
}

// P3.2, P3.3: of a node that isn't there nothing is told, whichever of two it is.
func TestNoSuchNode(t *testing.T) {
	for what, f := range rightForests(t) {
		for _, wrong := range sample.WrongNumbers(f) {
			checkNothing(t, what, f, wrong, wrong)
			checkNothing(t, what, f, wrong, 0)
			checkNothing(t, what, f, 0, wrong)
			checkNothing(t, what, f, len(f.Nodes)-1, wrong)
		}
	}
}

// P3.2, P3.3: of a forest that isn't right nothing is told, of no node, and it stays as it is.
func TestNothingOfWrong(t *testing.T) {
	for _, do := range changes(21) {
		f := grove(t)
		do(&f)
		if rightByWords(f) {
			continue
		}
		untouched(t, "wrong", f, func(f api.Forest) {
			for n := -1; n <= 21; n++ {
				checkNothing(t, "wrong", f, n, n)
				checkNothing(t, "wrong", f, 0, n)
			}
		})
	}
	for n := -1; n <= 1; n++ {
		checkNothing(t, "nothing", api.Forest{}, n, 0)
		checkNothing(t, "no node", api.Forest{Most: 9}, n, 0)
	}
}

// P3.4: tree order has just the nodes that n holds, each once.
func TestOrderHolds(t *testing.T) {
	for what, f := range rightForests(t) {
		for _, n := range sample.Some(f) {
			times := make([]int, len(f.Nodes))
			for _, at := range forest.Order(f, n) {
				times[at]++
			}
			for b, count := range times {
				want := 0
				if forest.Holds(f, n, b) {
					want = 1
				}
				if count != want {
					t.Errorf("%s: Order(%d) has %d %d times", what, n, b, count)
				}
			}
		}
	}
}
