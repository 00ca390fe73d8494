package walk_test

import (
	"slices"
	"testing"

	"instar/api"
	"instar/sample"
	"instar/walk"
)

// Who stands above in the grove: a parent, or a Shade's element.
func TestUp(t *testing.T) {
	f := sample.Grove()
	for n, want := range map[int]int{0: api.None, 3: 0, 1: 2, 12: 3, 13: 7, 8: 13, 11: api.None, 16: 11, 23: api.None, 24: 23, 25: 24} {
		if at := walk.Up(f.Nodes[n]); at != want {
			t.Errorf("Up of %d is %d, not %d", n, at, want)
		}
	}
}

// Where the ways up end, and what comes below; layer 4's tests ask for more of that.
func TestTopAndFull(t *testing.T) {
	f := sample.Grove()
	for n, want := range map[int][]int{
		0: {0, 3, 12, 7, 13, 9, 8, 10, 2, 14, 4, 1, 6, 5}, 11: {11, 15, 16, 17, 18, 19}, 20: {20}, 21: {21, 22}, 23: {23, 24, 25}, 26: {26},
	} {
		if !sample.Untouched(f, func(f api.Forest) {
			if l := walk.Full(f.Nodes, n); !slices.Equal(l, want) {
				t.Errorf("Full of %d is %v, not %v", n, l, want)
			}
			for _, at := range want {
				if top := walk.Top(f.Nodes, at); top != n {
					t.Errorf("Top of %d is %d, not %d", at, top, n)
				}
			}
		}) {
			t.Errorf("what was handed in has changed")
		}
	}
}

// Each tree of the grove has one root; a shadow's is its Shade.
func TestRoot(t *testing.T) {
	f := sample.Grove()
	for n, tree := range map[int][]int{
		0: {0, 3, 2, 4, 1, 6, 5}, 12: {12, 7, 10}, 13: {13, 9, 8}, 14: {14}, 11: {11, 15, 16, 17}, 18: {18, 19}, 21: {21, 22}, 23: {23}, 24: {24, 25}, 26: {26},
	} {
		for _, at := range tree {
			if root := walk.Root(f.Nodes, at); root != n {
				t.Errorf("Root of %d is %d, not %d", at, root, n)
			}
		}
	}
}

// Without shadows there come fewer.
func TestTree(t *testing.T) {
	f := sample.Grove()
	for n, want := range map[int][]int{0: {0, 3, 2, 4, 1, 6, 5}, 12: {12, 7, 10}, 7: {7}, 11: {11, 15, 16, 17}, 23: {23}} {
		if l := walk.Tree(f.Nodes, n); !slices.Equal(l, want) {
			t.Errorf("Tree of %d is %v, not %v", n, l, want)
		}
	}
}
