// Package change changes forests, for the layers that tell what befalls elements by it. It asks nothing:
// whoever calls it knows that the forest is right, and that what is to be done may be.
package change

import (
	"slices"

	"instar/api"
	"instar/fresh"
	"instar/walk"
)

// Work is a forest that is being changed, in memory of its own, and what was told so far.
type Work struct {
	Forest api.Forest
	Notes  []api.Note
}

// Begin answers f, to be changed.
func Begin(f api.Forest) *Work {
	return &Work{Forest: fresh.Forest(f)}
}

// Add adds n, with nobody about it, and answers its number.
func (w *Work) Add(n api.Node) int {
	at := len(w.Forest.Nodes)
	w.Forest.Nodes = append(w.Forest.Nodes, fresh.Alone(n, at))
	return at
}

// GoOut takes n, which has a parent, out of that.
func (w *Work) GoOut(n int) {
	was := w.connected(n)
	node := &w.Forest.Nodes[n]
	parent := &w.Forest.Nodes[node.Parent]
	at := slices.Index(parent.Kids, n)
	parent.Kids, node.Parent = slices.Delete(parent.Kids, at, at+1), api.None
	if was {
		w.tell(n, api.Note{Kind: api.Went})
	}
}

// TakeOver takes n over to a document.
func (w *Work) TakeOver(n, doc int) {
	if w.Forest.Nodes[n].Parent != api.None {
		w.GoOut(n)
	}
	from := w.Forest.Nodes[n].Doc
	if from == doc {
		return
	}
	for _, at := range walk.Full(w.Forest.Nodes, n) {
		w.Forest.Nodes[at].Doc = doc
	}
	w.tell(n, api.Note{Kind: api.Moved, From: from, To: doc})
}

// Put puts n itself under p, ahead of one of its children, or, if that is None, behind all.
func (w *Work) Put(n, p, before int) {
	w.TakeOver(n, w.Forest.Nodes[p].Doc)
	w.Stand(n, p, before)
	if w.connected(n) {
		w.tell(n, api.Note{Kind: api.Came})
	}
}

// Stand makes n, which has no parent, a child of p, and tells nothing of it.
func (w *Work) Stand(n, p, before int) {
	parent := &w.Forest.Nodes[p]
	at := len(parent.Kids)
	if before != api.None {
		at = slices.Index(parent.Kids, before)
	}
	parent.Kids, w.Forest.Nodes[n].Parent = slices.Insert(parent.Kids, at, n), p
}

// tell tells the note of each element in full order from n.
func (w *Work) tell(n int, note api.Note) {
	for _, at := range walk.Full(w.Forest.Nodes, n) {
		if w.Forest.Nodes[at].Kind == api.Elem {
			note.Node = at
			w.Notes = append(w.Notes, note)
		}
	}
}

func (w *Work) connected(n int) bool {
	return w.Forest.Nodes[walk.Top(w.Forest.Nodes, n)].Kind == api.Doc
}
