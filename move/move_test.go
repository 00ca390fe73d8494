package move_test

import (
	"slices"
	"testing"

	"instar/api"
	"instar/forest"
	"instar/move"
	"instar/sample"
	"instar/shade"
)

func insert(n, p, child int) call {
	return func(f api.Forest) (api.Forest, []api.Note, api.Errno) { return move.Insert(f, n, p, child) }
}

func remove(n int) call {
	return func(f api.Forest) (api.Forest, []api.Note, api.Errno) { return move.Remove(f, n) }
}

func replace(n, p, child int) call {
	return func(f api.Forest) (api.Forest, []api.Note, api.Errno) { return move.Replace(f, n, p, child) }
}

// checkCall checks what a call answers, that a forest stays right by it, and that what is handed in stays
// and shares nothing with the answer.
func checkCall(t *testing.T, what string, f api.Forest, do call, want deed) {
	t.Helper()
	var notes []api.Note
	var err api.Errno
	g, fault := sample.Ask(f, func(f api.Forest) api.Forest {
		f, notes, err = do(f)
		return f
	})
	if err != want.err || !slices.Equal(notes, want.notes) {
		t.Errorf("%s: %v, %d, not %v, %d", what, notes, err, want.notes, want.err)
	}
	if fault != "" {
		t.Errorf("%s: %s", what, fault)
	}
	checkForest(t, what, g, want.f)
	if err == api.OK {
		checkLife(t, what, f, g, notes)
	}
}

// checkForest checks that g is the forest that was meant, and tells of the first node that isn't so.
func checkForest(t *testing.T, what string, g, want api.Forest) {
	t.Helper()
	if sample.Same(g, want) {
		return
	}
	for n := range min(len(g.Nodes), len(want.Nodes)) {
		if !sample.SameNode(g.Nodes[n], want.Nodes[n]) {
			t.Errorf("%s: %d is %v then, not %v", what, n, g.Nodes[n], want.Nodes[n])
			return
		}
	}
	t.Errorf("%s: %d nodes of %d then, not %d of %d", what, len(g.Nodes), g.Most, len(want.Nodes), want.Most)
}

// checkLife checks P6.4 of a call: the forest is right; Came less Went, and what of Moved came last.
func checkLife(t *testing.T, what string, f, g api.Forest, notes []api.Note) {
	t.Helper()
	if !forest.Right(g) {
		t.Errorf("%s: came to what isn't right", what)
		return
	}
	came, docs := make([]int, len(f.Nodes)), make([]int, len(f.Nodes))
	for n := range f.Nodes {
		docs[n] = f.Nodes[n].Doc
	}
	for _, note := range notes {
		switch note.Kind {
		case api.Came:
			came[note.Node]++
		case api.Went:
			came[note.Node]--
		case api.Moved:
			if docs[note.Node] != note.From || note.From == note.To {
				t.Errorf("%s: %d moved from %d, it was in %d", what, note.Node, note.From, docs[note.Node])
			}
			docs[note.Node] = note.To
		}
	}
	before, behind := connected(f), connected(g)
	for n, node := range g.Nodes {
		if node.Kind == api.Elem && (came[n] != behind[n]-before[n] || docs[n] != node.Doc) {
			t.Errorf("%s: %d came %d times, was %d, is %d; told to be in %d, is in %d", what, n, came[n], before[n], behind[n], docs[n], node.Doc)
		}
		if node.Kind != api.Elem && came[n] != 0 {
			t.Errorf("%s: %d came, and is no Elem", what, n)
		}
	}
}

// connected tells of each node whether it is connected: 1, or 0.
func connected(f api.Forest) []int {
	is := make([]int, len(f.Nodes))
	for doc, node := range f.Nodes {
		if node.Kind == api.Doc {
			for _, n := range shade.All(f, doc) {
				is[n] = 1
			}
		}
	}
	return is
}

var came, went, moved = sample.Came, sample.Went, sample.Moved

// step is a step in the glade: of n, p and child; p's children then; and what is told, list by list.
type step struct {
	n, p, child int
	kids        []int
	told        [][]api.Note
}

// checkSteps checks what each step, by itself, comes to in the glade: p's children, and what is told; of the
// rest the chapter's words tell.
func checkSteps(t *testing.T, do func(n, p, child int) call, words func(f api.Forest, n, p, child int) deed, steps ...step) {
	t.Helper()
	for _, s := range steps {
		f := sample.Glade()
		want := words(f, s.n, s.p, s.child)
		if told := slices.Concat(s.told...); want.err != api.OK || !slices.Equal(want.f.Nodes[s.p].Kids, s.kids) || !slices.Equal(want.notes, told) {
			t.Errorf("%d, %d, %d: by the words %v, %v, %d, not %v, %v", s.n, s.p, s.child, want.f.Nodes[s.p].Kids, want.notes, want.err, s.kids, told)
		}
		checkCall(t, "a step", f, do(s.n, s.p, s.child), want)
	}
}

// list is what is told.
func list(l ...[]api.Note) [][]api.Note { return l }

// P6.1: from nowhere, from among the children, from below, and from a shadow into the tree; what is a Text
// isn't told of, what hangs in its shadow is.
func TestInsert(t *testing.T) {
	none := api.None
	checkSteps(t, insert, insertByWords,
		step{21, 1, 2, []int{21, 2, 3, 4}, list(came(21))},
		step{21, 1, 4, []int{2, 3, 21, 4}, list(came(21))},
		step{21, 1, none, []int{2, 3, 4, 21}, list(came(21))},
		step{22, 1, 3, []int{2, 22, 3, 4}, nil},
		step{21, 26, none, []int{21}, list(moved(0, 26, 21), came(21))},
		step{2, 1, 2, []int{2, 3, 4}, list(went(2), came(2))},
		step{2, 1, 3, []int{2, 3, 4}, list(went(2), came(2))},
		step{2, 1, 4, []int{3, 2, 4}, list(went(2), came(2))},
		step{2, 1, none, []int{3, 4, 2}, list(went(2), came(2))},
		step{4, 1, 4, []int{2, 3, 4}, list(went(4, 5), came(4, 5))},
		step{4, 1, 2, []int{4, 2, 3}, list(went(4, 5), came(4, 5))},
		step{3, 1, none, []int{2, 4, 3}, nil},
		step{4, 21, none, []int{4}, list(went(4, 5))},
		step{2, 4, none, []int{2}, list(went(2), came(2))},
		step{5, 1, 4, []int{2, 3, 5, 4}, list(went(5), came(5))},
		step{21, 6, 5, []int{21, 5}, list(came(21))},
		step{2, 6, none, []int{5, 2}, list(went(2), came(2))},
		step{11, 9, 10, []int{11, 10}, nil},
	)
}

// P6.1: what goes to another document, with all that is below, in shadows too.
func TestInsertElsewhere(t *testing.T) {
	none := api.None
	checkSteps(t, insert, insertByWords,
		step{1, 7, none, []int{1}, list(went(1, 2, 4, 5), moved(0, 7, 1, 2, 4, 5), came(1, 2, 4, 5))},
		step{1, 24, none, []int{1}, list(went(1, 2, 4, 5), moved(0, 23, 1, 2, 4, 5), came(1, 2, 4, 5))},
		step{1, 25, none, []int{1}, list(went(1, 2, 4, 5), moved(0, 23, 1, 2, 4, 5))},
		step{24, 1, 3, []int{2, 24, 3, 4}, list(went(24), moved(23, 0, 24), came(24))},
		step{25, 1, 2, []int{25, 2, 3, 4}, list(moved(23, 0, 25), came(25))},
		step{25, 21, none, []int{25}, list(moved(23, 0, 25))},
		step{22, 24, none, []int{22}, nil},
		step{12, 25, none, []int{12}, nil},
	)
}

// P6.1: of a Frag its children are put, each told of by itself; the Frag stays where it is, and of its document.
func TestInsertFrag(t *testing.T) {
	none := api.None
	checkSteps(t, insert, insertByWords,
		step{13, 1, 3, []int{2, 14, 15, 3, 4}, list(came(14), came(15))},
		step{13, 1, none, []int{2, 3, 4, 14, 15}, list(came(14, 15))},
		step{13, 24, none, []int{14, 15}, list(moved(0, 23, 14), came(14), moved(0, 23, 15), came(15))},
		step{13, 25, none, []int{14, 15}, list(moved(0, 23, 14), moved(0, 23, 15))},
		step{13, 8, none, []int{14, 15}, nil},
		step{13, 9, 10, []int{14, 15, 10}, nil},
		step{18, 1, 2, []int{19, 20, 2, 3, 4}, list(came(19))},
		step{16, 6, 5, []int{17, 5}, nil},
		step{9, 7, none, []int{10}, list(moved(0, 7, 10, 11), came(10, 11))},
		step{9, 4, none, []int{10}, list(came(10, 11))},
		step{8, 1, 2, []int{2, 3, 4}, nil},
		step{8, 0, none, []int{1}, nil},
		step{14, 13, 14, []int{14, 15}, nil},
		step{15, 13, 14, []int{15, 14}, nil},
		step{14, 13, none, []int{15, 14}, nil},
	)
	f, _, _ := move.Insert(sample.Glade(), 13, 24, none)
	if frag := f.Nodes[13]; len(frag.Kids) > 0 || frag.Doc != 0 || frag.Parent != none {
		t.Errorf("the Frag is %v", frag)
	}
}

// P6.2: in another one's place, in one's own, in a neighbour's, and in that of whom one hangs below.
func TestReplace(t *testing.T) {
	checkSteps(t, replace, replaceByWords,
		step{21, 1, 2, []int{21, 3, 4}, list(went(2), came(21))},
		step{21, 1, 4, []int{2, 3, 21}, list(went(4, 5), came(21))},
		step{22, 1, 2, []int{22, 3, 4}, list(went(2))},
		step{2, 1, 2, []int{2, 3, 4}, list(went(2), came(2))},
		step{3, 1, 3, []int{2, 3, 4}, nil},
		step{4, 1, 4, []int{2, 3, 4}, list(went(4, 5), came(4, 5))},
		step{3, 1, 2, []int{3, 4}, list(went(2))},
		step{2, 1, 3, []int{2, 4}, list(went(2), came(2))},
		step{4, 1, 3, []int{2, 4}, list(went(4, 5), came(4, 5))},
		step{4, 1, 2, []int{4, 3}, list(went(2), went(4, 5), came(4, 5))},
		step{2, 1, 4, []int{3, 2}, list(went(4, 5), went(2), came(2))},
		step{5, 1, 4, []int{2, 3, 5}, list(went(4, 5), came(5))},
		step{21, 6, 5, []int{21}, list(went(5), came(21))},
		step{25, 6, 5, []int{25}, list(went(5), moved(23, 0, 25), came(25))},
		step{24, 6, 5, []int{24}, list(went(5), went(24), moved(23, 0, 24), came(24))},
		step{14, 13, 15, []int{14}, nil},
		step{12, 9, 10, []int{12}, nil},
	)
}

// P6.2: in a Doc, and by a Frag, which may have nobody.
func TestReplaceInDocAndByFrag(t *testing.T) {
	checkSteps(t, replace, replaceByWords,
		step{21, 0, 1, []int{21}, list(went(1, 2, 4, 5), came(21))},
		step{1, 0, 1, []int{1}, list(went(1, 2, 4, 5), came(1, 2, 4, 5))},
		step{2, 0, 1, []int{2}, list(went(1, 2, 4, 5), came(2))},
		step{5, 0, 1, []int{5}, list(went(1, 2, 4, 5), came(5))},
		step{24, 0, 1, []int{24}, list(went(1, 2, 4, 5), went(24), moved(23, 0, 24), came(24))},
		step{4, 23, 24, []int{4}, list(went(24), went(4, 5), moved(0, 23, 4, 5), came(4, 5))},
		step{9, 0, 1, []int{10}, list(went(1, 2, 4, 5), came(10, 11))},
		step{8, 0, 1, nil, list(went(1, 2, 4, 5))},
		step{8, 1, 3, []int{2, 4}, nil},
		step{8, 1, 4, []int{2, 3}, list(went(4, 5))},
		step{13, 1, 2, []int{14, 15, 3, 4}, list(went(2), came(14), came(15))},
		step{13, 1, 4, []int{2, 3, 14, 15}, list(went(4, 5), came(14), came(15))},
	)
}

// P6.1: who goes out, and of whom is told: in full order, only of who was connected.
func TestRemove(t *testing.T) {
	told := map[int][]api.Note{
		1: went(1, 2, 4, 5), 2: went(2), 3: nil, 4: went(4, 5), 5: went(5), 10: nil, 11: nil, 12: nil, 14: nil, 15: nil, 17: nil, 19: nil, 20: nil, 24: went(24),
	}
	f := sample.Glade()
	for n := range f.Nodes {
		l, has := told[n]
		want := removeByWords(f, n)
		if has != (want.err == api.OK) || !slices.Equal(want.notes, l) {
			t.Errorf("%d: by the words %v, %d, not %v", n, want.notes, want.err, l)
		}
		checkCall(t, "glade", f, remove(n), want)
	}
	f = sample.Grove()
	if _, l, err := move.Remove(f, 3); err != api.OK || !slices.Equal(l, went(3, 7, 8, 2, 1, 5)) {
		t.Errorf("of the grove: %v, %d", l, err)
	}
	for n := range f.Nodes {
		checkCall(t, "grove", f, remove(n), removeByWords(f, n))
	}
}

// P6.1, P6.2: what is refused changes nothing, and tells nothing.
func TestRefusals(t *testing.T) {
	none := api.None
	f := sample.Glade()
	for err, steps := range map[api.Errno][][3]int{
		api.ErrTree: {{21, 3, none}, {21, 22, 22}, {1, 2, none}, {1, 1, 2}, {1, 6, 5}, {0, 1, 2}, {7, 1, 2}, {6, 21, none}, {21, 0, none}, {1, 0, none}, {13, 7, none}, {18, 7, none}, {22, 7, none}, {8, 8, none}},
		api.ErrNone: {{21, 1, 5}, {21, 1, 1}, {21, 1, 21}, {2, 4, 5}, {6, 1, 5}, {22, 0, 2}, {21, 13, 10}},
		api.ErrArg:  {{21, 1, -2}, {21, 1, 27}, {27, 1, none}, {-1, 1, none}, {21, 27, none}, {21, -1, none}, {3, 3, 99}},
	} {
		for _, s := range steps {
			checkCall(t, "insert", f, insert(s[0], s[1], s[2]), refusedBy(f, err))
		}
	}
	for err, steps := range map[api.Errno][][3]int{
		api.ErrTree: {{21, 3, none}, {21, 22, 22}, {1, 2, none}, {1, 1, 2}, {1, 6, 5}, {0, 1, 2}, {7, 1, 2}, {13, 0, 1}, {18, 0, 1}, {22, 0, 1}, {8, 8, none}},
		api.ErrNone: {{21, 1, none}, {13, 24, none}, {7, 1, none}, {22, 7, none}, {21, 1, 5}, {21, 1, 1}, {6, 1, 5}, {22, 0, 2}, {24, 0, none}},
		api.ErrArg:  {{21, 1, -2}, {21, 1, 27}, {27, 1, 2}, {-1, 1, 2}, {21, 27, 2}, {21, -1, none}, {3, 3, 99}},
	} {
		for _, s := range steps {
			checkCall(t, "replace", f, replace(s[0], s[1], s[2]), refusedBy(f, err))
		}
	}
	for err, all := range map[api.Errno][]int{api.ErrNone: {0, 6, 7, 8, 9, 13, 16, 18, 21, 22, 23, 25, 26}, api.ErrArg: sample.WrongNumbers(f)} {
		for _, n := range all {
			checkCall(t, "remove", f, remove(n), refusedBy(f, err))
		}
	}
}

// The chapter's example.
func TestExample(t *testing.T) {
	f := sample.Forest(9, sample.Elem("div"), api.Node{Kind: api.Frag}, sample.Elem("b"), sample.Elem("i"))
	sample.Hang(f, 0, 1)
	sample.Hang(f, 2, 4, 3)
	if _, l, err := move.Insert(f, 2, 1, api.None); err != api.OK || !slices.Equal(l, came(4, 3)) {
		t.Errorf("told %v, %d", l, err)
	}
}
