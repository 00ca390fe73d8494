package valid_test

import (
	"slices"
	"testing"

	"instar/api"
	"instar/forest"
	"instar/sample"
	"instar/valid"
)

// step is what May and Swap answer of n, p and child, a node or None.
type step struct {
	n, p, child int
	may, swap   api.Errno
}

// checkSteps asks May and Swap in the glade.
func checkSteps(t *testing.T, steps ...step) {
	t.Helper()
	f := sample.Glade()
	for _, s := range steps {
		if err := valid.May(f, s.n, s.p, s.child); err != s.may {
			t.Errorf("May(%d, %d, %d) = %d, not %d", s.n, s.p, s.child, err, s.may)
		}
		if err := valid.Swap(f, s.n, s.p, s.child); err != s.swap {
			t.Errorf("Swap(%d, %d, %d) = %d, not %d", s.n, s.p, s.child, err, s.swap)
		}
	}
}

// P5.1, P5.2: what may be: under an Elem, a Frag, a Shade, a Doc; of this document and of another one; from
// elsewhere, from below, and from there.
func TestMayAndSwap(t *testing.T) {
	checkSteps(t,
		step{21, 1, api.None, api.OK, api.ErrNone}, step{21, 1, 2, api.OK, api.OK}, step{21, 1, 4, api.OK, api.OK},
		step{22, 1, 3, api.OK, api.OK}, step{21, 8, api.None, api.OK, api.ErrNone}, step{22, 13, 15, api.OK, api.OK},
		step{21, 6, 5, api.OK, api.OK}, step{22, 6, api.None, api.OK, api.ErrNone}, step{21, 7, api.None, api.OK, api.ErrNone},
		step{24, 1, 3, api.OK, api.OK}, step{25, 7, api.None, api.OK, api.ErrNone}, step{24, 7, api.None, api.OK, api.ErrNone},
		step{2, 1, 2, api.OK, api.OK}, step{2, 1, 4, api.OK, api.OK}, step{4, 1, 3, api.OK, api.OK}, step{2, 1, api.None, api.OK, api.ErrNone},
		step{5, 1, 4, api.OK, api.OK}, step{2, 4, api.None, api.OK, api.ErrNone}, step{11, 9, 10, api.OK, api.OK}, step{14, 21, api.None, api.OK, api.ErrNone},
		step{8, 1, 2, api.OK, api.OK}, step{9, 1, 2, api.OK, api.OK}, step{13, 1, 3, api.OK, api.OK}, step{16, 6, 5, api.OK, api.OK}, step{18, 13, 14, api.OK, api.OK},
		step{1, 7, api.None, api.OK, api.ErrNone}, step{1, 24, api.None, api.OK, api.ErrNone},
	)
}

// P5.1, P5.2, at 1: no node may be put under a Text.
func TestParent(t *testing.T) {
	for _, n := range []int{0, 1, 2, 6, 8, 9, 21, 22} {
		for _, p := range []int{3, 12, 17, 22} {
			checkSteps(t, step{n, p, api.None, api.ErrTree, api.ErrTree}, step{n, p, 2, api.ErrTree, api.ErrTree}, step{n, p, n, api.ErrTree, api.ErrTree})
		}
	}
}

// P5.1, P5.2, at 2: nor one that is over the parent, by children, by shadows, or as it is the parent.
func TestOver(t *testing.T) {
	for _, c := range [][2]int{
		{1, 1}, {1, 2}, {1, 4}, {1, 6}, {1, 5}, {4, 6}, {4, 5}, {5, 5}, {6, 6}, {6, 5}, {0, 0}, {0, 1}, {0, 5}, {7, 7}, {23, 24},
		{8, 8}, {9, 9}, {9, 10}, {9, 11}, {10, 11}, {21, 21}, {13, 13}, {13, 15},
	} {
		checkSteps(t, step{c[0], c[1], api.None, api.ErrTree, api.ErrTree})
	}
	checkSteps(t, step{9, 9, 10, api.ErrTree, api.ErrTree}, step{1, 6, 5, api.ErrTree, api.ErrTree}, step{4, 6, 5, api.ErrTree, api.ErrTree}, step{0, 1, 3, api.ErrTree, api.ErrTree})
}

// P5.1, P5.2, at 3: the child is the parent's own one; None may be told where nothing goes.
func TestChild(t *testing.T) {
	checkSteps(t,
		step{21, 1, 5, api.ErrNone, api.ErrNone}, step{21, 1, 1, api.ErrNone, api.ErrNone}, step{21, 1, 0, api.ErrNone, api.ErrNone}, step{21, 1, 21, api.ErrNone, api.ErrNone},
		step{21, 4, 6, api.ErrNone, api.ErrNone}, step{21, 4, 5, api.ErrNone, api.ErrNone}, step{21, 6, 4, api.ErrNone, api.ErrNone}, step{21, 0, 2, api.ErrNone, api.ErrNone},
		step{21, 8, 10, api.ErrNone, api.ErrNone}, step{21, 9, 11, api.ErrNone, api.ErrNone}, step{2, 4, 2, api.ErrNone, api.ErrNone},
		step{13, 1, 14, api.ErrNone, api.ErrNone}, step{21, 7, 24, api.ErrNone, api.ErrNone}, step{21, 7, 0, api.ErrNone, api.ErrNone},
	)
}

// P5.1, P5.2, at 4: Docs and Shades are put nowhere.
func TestRootsStay(t *testing.T) {
	for _, p := range []int{1, 2, 8, 13, 21} {
		for _, n := range []int{7, 23, 6} {
			checkSteps(t, step{n, p, api.None, api.ErrTree, api.ErrNone})
		}
	}
	checkSteps(t,
		step{7, 1, 2, api.ErrTree, api.ErrTree}, step{6, 1, 4, api.ErrTree, api.ErrTree}, step{23, 13, 14, api.ErrTree, api.ErrTree}, step{0, 9, 10, api.ErrTree, api.ErrTree},
		step{7, 0, api.None, api.ErrTree, api.ErrNone}, step{7, 0, 1, api.ErrTree, api.ErrTree}, step{0, 26, api.None, api.ErrTree, api.ErrNone},
		step{6, 0, 1, api.ErrTree, api.ErrTree}, step{6, 7, api.None, api.ErrTree, api.ErrNone}, step{7, 26, api.None, api.ErrTree, api.ErrNone},
	)
}

// P5.1, P5.2, at 5: an empty Doc takes an Elem, or a Frag of none or of one, and no Text; what a Frag's Elem
// holds doesn't count.
func TestEmptyDoc(t *testing.T) {
	for n, err := range map[int]api.Errno{
		21: api.OK, 25: api.OK, 1: api.OK, 24: api.OK, 11: api.OK, 8: api.OK, 9: api.OK,
		22: api.ErrTree, 3: api.ErrTree, 13: api.ErrTree, 16: api.ErrTree, 18: api.ErrTree,
	} {
		checkSteps(t, step{n, 7, api.None, err, api.ErrNone}, step{n, 26, api.None, err, api.ErrNone})
	}
}

// P5.1, P5.2, at 5: a Doc with an Elem takes no other one, its own one neither, but in that one's place.
func TestTakenDoc(t *testing.T) {
	for n, err := range map[int]api.Errno{21: api.OK, 25: api.OK, 24: api.OK, 1: api.OK, 2: api.OK, 5: api.OK, 9: api.OK, 13: api.ErrTree, 16: api.ErrTree, 18: api.ErrTree, 22: api.ErrTree, 3: api.ErrTree} {
		checkSteps(t, step{n, 0, 1, api.ErrTree, err}, step{n, 0, api.None, api.ErrTree, api.ErrNone}, step{n, 23, 24, api.ErrTree, err})
	}
	checkSteps(t, step{8, 0, 1, api.OK, api.OK}, step{8, 0, api.None, api.OK, api.ErrNone}, step{8, 23, 24, api.OK, api.OK})
}

// P5.1, P5.2: where several errors apply, the first one of the list is told.
func TestTurn(t *testing.T) {
	checkSteps(t,
		// the parent, and who is over it, ahead of the child
		step{21, 3, 2, api.ErrTree, api.ErrTree}, step{21, 22, 22, api.ErrTree, api.ErrTree}, step{0, 3, 2, api.ErrTree, api.ErrTree},
		step{1, 2, 22, api.ErrTree, api.ErrTree}, step{0, 1, 5, api.ErrTree, api.ErrTree}, step{8, 8, 1, api.ErrTree, api.ErrTree}, step{0, 0, 2, api.ErrTree, api.ErrTree},
		// the child ahead of the node
		step{7, 1, 22, api.ErrNone, api.ErrNone}, step{6, 1, 22, api.ErrNone, api.ErrNone}, step{6, 4, 1, api.ErrNone, api.ErrNone}, step{6, 2, 6, api.ErrNone, api.ErrNone},
		// the child ahead of what a Doc takes
		step{22, 7, 22, api.ErrNone, api.ErrNone}, step{22, 0, 2, api.ErrNone, api.ErrNone}, step{21, 0, 24, api.ErrNone, api.ErrNone}, step{13, 0, 14, api.ErrNone, api.ErrNone}, step{7, 0, 4, api.ErrNone, api.ErrNone},
	)
}

// P5.1, P5.2: ahead of all is told who isn't there: the node, the parent, the child but None.
func TestNobody(t *testing.T) {
	all := sample.Right()
	all["glade"] = sample.Glade()
	for what, f := range all {
		for _, wrong := range sample.WrongNumbers(f) {
			for _, n := range sample.Some(f) {
				checkWrong(t, what, f, wrong, n, api.None)
				checkWrong(t, what, f, n, wrong, api.None)
				checkWrong(t, what, f, wrong, wrong, n)
				checkWrong(t, what, f, n, wrong, n)
				if wrong != api.None {
					checkWrong(t, what, f, n, 0, wrong)
					checkWrong(t, what, f, 0, n, wrong)
				}
			}
			if l := valid.Parts(f, wrong); len(l) > 0 {
				t.Errorf("%s: Parts(%d) = %v", what, wrong, l)
			}
		}
	}
}

// checkWrong checks that an argument is refused.
func checkWrong(t *testing.T, what string, f api.Forest, n, p, child int) {
	t.Helper()
	may, swap, before := valid.May(f, n, p, child), valid.Swap(f, n, p, child), valid.Before(f, n, p, child)
	if may != api.ErrArg || swap != api.ErrArg || before != api.None {
		t.Errorf("%s: of %d, %d, %d: May %d, Swap %d, Before %d", what, n, p, child, may, swap, before)
	}
}

// P5.1 to P5.3: nothing may be put in a forest that isn't right. What of a node is put hangs on that alone.
func TestWrongForests(t *testing.T) {
	for what, f := range sample.Wrong() {
		if !sample.Untouched(f, func(f api.Forest) {
			for n := -1; n <= len(f.Nodes); n++ {
				checkWrong(t, what, f, n, 0, api.None)
				checkWrong(t, what, f, 26, n, api.None)
				checkWrong(t, what, f, 26, 3, n)
			}
			checkParts(t, what, f)
		}) {
			t.Errorf("%s: changed", what)
		}
	}
}

// checkParts asks Parts of all nodes and of those next to them.
func checkParts(t *testing.T, what string, f api.Forest) {
	t.Helper()
	for n := -1; n <= len(f.Nodes); n++ {
		var want []int
		if 0 <= n && n < len(f.Nodes) {
			want = partsByWords(f, n)
		}
		if l := valid.Parts(f, n); !slices.Equal(l, want) {
			t.Errorf("%s: Parts(%d) = %v, not %v", what, n, l, want)
		}
	}
}

// P5.3: what is put.
func TestParts(t *testing.T) {
	f := sample.Glade()
	for n := range f.Nodes {
		want := []int{n}
		switch n {
		case 8:
			want = nil
		case 9:
			want = []int{10}
		case 13:
			want = []int{14, 15}
		case 16:
			want = []int{17}
		case 18:
			want = []int{19, 20}
		}
		if l := valid.Parts(f, n); !slices.Equal(l, want) {
			t.Errorf("Parts(%d) = %v, not %v", n, l, want)
		}
	}
	f.Nodes[13].Kids = []int{15, 14}
	if l := valid.Parts(f, 13); !slices.Equal(l, []int{15, 14}) {
		t.Errorf("Parts, turned round: %v", l)
	}
}

// P5.3: what Parts answers is the caller's own.
func TestPartsOwn(t *testing.T) {
	for n := range sample.Glade().Nodes {
		given, whole := sample.Roomy(sample.Glade())
		l := valid.Parts(given, n)
		for i := range l[:cap(l)] {
			l[:cap(l)][i] = 999
		}
		if !sample.Stays(given, whole) {
			t.Errorf("Parts(%d) shares memory with what was handed in", n)
		}
	}
}

// P5.3: ahead of which child; None where May tells an error, though Swap may tell none.
func TestBefore(t *testing.T) {
	f := sample.Glade()
	for _, c := range [][4]int{
		{21, 1, 2, 2}, {21, 1, 3, 3}, {21, 1, 4, 4}, {21, 1, api.None, api.None}, {9, 1, 3, 3}, {8, 1, 4, 4}, {24, 6, 5, 5},
		{2, 1, 2, 3}, {3, 1, 3, 4}, {4, 1, 4, api.None}, {14, 13, 14, 15}, {15, 13, 15, api.None}, {10, 9, 10, api.None}, {5, 6, 5, api.None},
		{2, 1, 3, 3}, {2, 1, 4, 4}, {4, 1, 2, 2}, {4, 1, 3, 3}, {3, 1, 2, 2}, {2, 1, api.None, api.None}, {8, 0, 1, 1},
		{21, 3, 2, api.None}, {1, 1, 2, api.None}, {1, 6, 5, api.None}, {21, 1, 5, api.None}, {2, 4, 2, api.None}, {7, 1, 2, api.None}, {6, 1, 4, api.None},
		{21, 0, 1, api.None}, {1, 0, 1, api.None}, {22, 0, 1, api.None}, {13, 23, 24, api.None}, {2, 0, 1, api.None},
	} {
		if at := valid.Before(f, c[0], c[1], c[2]); at != c[3] {
			t.Errorf("Before(%d, %d, %d) = %d, not %d", c[0], c[1], c[2], at, c[3])
		}
	}
}

// The chapter's example.
func TestExample(t *testing.T) {
	f := sample.Forest(9, sample.Elem("p"), sample.Elem("b"))
	if err := valid.May(f, 1, 0, api.None); err != api.OK {
		t.Errorf("the first one: %d", err)
	}
	sample.Hang(f, 0, 1)
	if may, swap := valid.May(f, 2, 0, api.None), valid.Swap(f, 2, 0, 1); may != api.ErrTree || swap != api.OK {
		t.Errorf("the second one: May %d, Swap %d", may, swap)
	}
}

// checkWords holds what is asked of some nodes of f against the chapter's words.
func checkWords(t *testing.T, what string, f api.Forest) {
	t.Helper()
	checkParts(t, what, f)
	some := sample.Some(f)
	for _, n := range some {
		for _, p := range some {
			for _, child := range append([]int{api.None}, some...) {
				may, swap, before := valid.May(f, n, p, child), valid.Swap(f, n, p, child), valid.Before(f, n, p, child)
				if may != mayByWords(f, n, p, child, false) || swap != mayByWords(f, n, p, child, true) || before != beforeByWords(f, n, p, child) {
					t.Errorf("%s: of %d, %d, %d: May %d, Swap %d, Before %d", what, n, p, child, may, swap, before)
				}
			}
		}
	}
}

// P5.1 to P5.3: all steps, by the chapter's words; the forests stay as they are.
func TestWords(t *testing.T) {
	all := sample.Right()
	for what, f := range sample.Meadows() {
		all[what] = f
	}
	for what, f := range all {
		if !sample.Untouched(f, func(f api.Forest) { checkWords(t, what, f) }) {
			t.Errorf("%s: changed", what)
		}
	}
}

// comesBack tells of what is refused though the forest would be right: nothing is put, or what stands there
// already.
func comesBack(f api.Forest, n, p int) bool {
	return len(valid.Parts(f, n)) == 0 || n == p && f.Nodes[n].Kind == api.Frag || f.Nodes[n].Parent == p
}

// checkPut does by hand what was asked for, and checks that the forest is right just where it may be.
func checkPut(t *testing.T, what string, f api.Forest, n, p, ahead int, err api.Errno) {
	t.Helper()
	if err == api.ErrNone || err == api.ErrTree && comesBack(f, n, p) {
		return
	}
	if g := put(f, valid.Parts(f, n), p, ahead); forest.Right(g) != (err == api.OK) {
		t.Errorf("%s: %d put under %d, ahead of %d: %d, but it is right: %v", what, n, p, ahead, err, err != api.OK)
	}
}

// P5.1 to P5.3: a forest stays right by what may be, and doesn't by what may not.
func TestPut(t *testing.T) {
	for what, f := range sample.Meadows() {
		for n := range f.Nodes {
			for p, parent := range f.Nodes {
				checkPut(t, what, f, n, p, api.None, valid.May(f, n, p, api.None))
				for _, child := range parent.Kids {
					behind := behindByWords(f, n, p, child)
					checkPut(t, what, f, n, p, behind, valid.May(f, n, p, child))
					gone := sample.Copy(f)
					sample.Cut(gone, child)
					checkPut(t, what, gone, n, p, sought(f, n, p, child), valid.Swap(f, n, p, child))
				}
			}
		}
	}
}

// sought is the child behind the one that goes, and if that is n, the one behind n.
func sought(f api.Forest, n, p, child int) int {
	return behindByWords(f, n, p, behindByWords(f, child, p, child))
}
