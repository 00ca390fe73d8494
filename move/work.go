package move

import (
	"slices"

	"instar/api"
	"instar/attr"
	"instar/forest"
	"instar/fresh"
	"instar/name"
	"instar/valid"
	"instar/walk"
)

// work is a forest that is being changed, in memory of its own, and what was told so far. It is changed
// only when it is known that it may be.
type work struct {
	f     api.Forest
	notes []api.Note
}

func begin(f api.Forest) *work {
	return &work{f: fresh.Forest(f)}
}

// end answers what came of it all; where it was refused, nothing was done.
func (w *work) end(err error) (api.Forest, []api.Note, api.Errno) {
	return w.f, w.notes, why(err)
}

// tell tells the note of each element in full order from n.
func (w *work) tell(n int, note api.Note) {
	for _, at := range walk.Full(w.f.Nodes, n) {
		if w.f.Nodes[at].Kind == api.Elem {
			note.Node = at
			w.notes = append(w.notes, note)
		}
	}
}

func (w *work) connected(n int) bool {
	return w.f.Nodes[walk.Top(w.f.Nodes, n)].Kind == api.Doc
}

// goOut takes n, which has a parent, out of that.
func (w *work) goOut(n int) {
	was := w.connected(n)
	node := &w.f.Nodes[n]
	parent := &w.f.Nodes[node.Parent]
	at := slices.Index(parent.Kids, n)
	parent.Kids, node.Parent = slices.Delete(parent.Kids, at, at+1), api.None
	if was {
		w.tell(n, api.Note{Kind: api.Went})
	}
}

// takeOver takes n over to a document.
func (w *work) takeOver(n, doc int) {
	if w.f.Nodes[n].Parent != api.None {
		w.goOut(n)
	}
	from := w.f.Nodes[n].Doc
	if from == doc {
		return
	}
	for _, at := range walk.Full(w.f.Nodes, n) {
		w.f.Nodes[at].Doc = doc
	}
	w.tell(n, api.Note{Kind: api.Moved, From: from, To: doc})
}

// put puts n under p, ahead of child. Ahead of whom it comes is asked before anybody goes out.
func (w *work) put(n, p, child int) {
	before, parts := valid.Before(w.f, n, p, child), valid.Parts(w.f, n)
	if w.f.Nodes[n].Kind == api.Frag {
		for _, part := range parts {
			w.goOut(part)
		}
	}
	for _, part := range parts {
		w.takeOver(part, w.f.Nodes[p].Doc)
		w.stand(part, p, before)
		if w.connected(part) {
			w.tell(part, api.Note{Kind: api.Came})
		}
	}
}

// stand makes n, which has no parent, a child of p.
func (w *work) stand(n, p, before int) {
	parent := &w.f.Nodes[p]
	at := len(parent.Kids)
	if before != api.None {
		at = slices.Index(parent.Kids, before)
	}
	parent.Kids, w.f.Nodes[n].Parent = slices.Insert(parent.Kids, at, n), p
}

// change gives n these attributes, which have changed by s.
func (w *work) change(n int, s string, l []api.Attr) {
	old, had := attr.Get(w.f.Nodes[n].Attrs, s)
	now, has := attr.Get(l, s)
	w.f.Nodes[n].Attrs = l
	w.notes = append(w.notes, api.Note{Kind: api.Changed, Node: n, Name: name.Small(s), Had: had, Has: has, Old: old, New: now})
}

// behind answers the child that stands behind n, which has a parent.
func behind(f api.Forest, n int) int {
	kids := f.Nodes[f.Nodes[n].Parent].Kids
	if at := slices.Index(kids, n) + 1; at < len(kids) {
		return kids[at]
	}
	return api.None
}

// knows tells whether f is right, and has the node n: else nobody has a root.
func knows(f api.Forest, n int) bool {
	return forest.Root(f, n) != api.None
}

// elemRefusal answers why n has no attributes.
func elemRefusal(f api.Forest, n int) api.Errno {
	switch {
	case !knows(f, n):
		return api.ErrArg
	case f.Nodes[n].Kind != api.Elem:
		return api.ErrTree
	}
	return api.OK
}
