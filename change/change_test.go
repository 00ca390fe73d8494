package change_test

import (
	"slices"
	"testing"

	"instar/api"
	"instar/change"
	"instar/forest"
	"instar/sample"
)

// check does something to the glade, and checks what is told of it, and whose children p's are then. (All
// that it comes to is what the tests of layers 6 and 7 ask for.)
func check(t *testing.T, what string, do func(w *change.Work), notes []api.Note, p int, kids ...int) {
	t.Helper()
	if !sample.Untouched(sample.Glade(), func(f api.Forest) {
		w := change.Begin(f)
		do(w)
		if !slices.Equal(w.Notes, notes) || !slices.Equal(w.Forest.Nodes[p].Kids, kids) || !forest.Right(w.Forest) {
			t.Errorf("%s: %v, %v, not %v, %v", what, w.Notes, w.Forest.Nodes[p].Kids, notes, kids)
		}
		if !sample.Apart(w.Forest) {
			t.Errorf("%s: lists share memory", what)
		}
	}) {
		t.Errorf("%s: what was handed in has changed", what)
	}
}

// Who goes out, or to another document, or is put somewhere, is told of with all elements below.
func TestWork(t *testing.T) {
	went, moved, came := sample.Went(4, 5), sample.Moved(0, 23, 4, 5), sample.Came(4, 5)
	check(t, "nothing", func(w *change.Work) {}, nil, 1, 2, 3, 4)
	check(t, "out", func(w *change.Work) { w.GoOut(4) }, went, 1, 2, 3)
	check(t, "out of a Frag", func(w *change.Work) { w.GoOut(14) }, nil, 13, 15)
	check(t, "to its own document", func(w *change.Work) { w.TakeOver(4, 0) }, went, 1, 2, 3)
	check(t, "to another document", func(w *change.Work) { w.TakeOver(4, 23) }, slices.Concat(went, moved), 1, 2, 3)
	check(t, "put behind all", func(w *change.Work) { w.Put(4, 24, api.None) }, slices.Concat(went, moved, came), 24, 4)
	check(t, "put ahead", func(w *change.Work) { w.Put(4, 1, 2) }, slices.Concat(went, came), 1, 4, 2, 3)
	check(t, "put into a Frag", func(w *change.Work) { w.Put(4, 13, 15) }, went, 13, 14, 4, 15)
	check(t, "made to stand ahead", func(w *change.Work) { w.Stand(21, 1, 3) }, nil, 1, 2, 21, 3, 4)
	check(t, "made to stand behind all", func(w *change.Work) { w.Stand(21, 1, api.None) }, nil, 1, 2, 3, 4, 21)
	check(t, "one step on the other", func(w *change.Work) { w.GoOut(24); w.Put(21, 23, api.None) }, slices.Concat(sample.Went(24), sample.Moved(0, 23, 21), sample.Came(21)), 23, 21)
}

// Whoever is added stands by itself, and nothing is told of it.
func TestAdd(t *testing.T) {
	w := change.Begin(sample.Glade())
	n := api.Node{Kind: api.Elem, Name: "p", Parent: 1, Kids: []int{2}, Doc: 23}
	if at := w.Add(n); at != 27 || len(w.Notes) > 0 || !forest.Right(w.Forest) {
		t.Errorf("added as %d, told %v", at, w.Notes)
	}
	if at := w.Add(api.Node{}); at != 28 || w.Forest.Nodes[28].Doc != 28 || w.Forest.Nodes[27].Doc != 23 || len(w.Forest.Nodes) != 29 {
		t.Errorf("added as %d: %v", at, w.Forest.Nodes[27:])
	}
}
