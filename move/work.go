package move

import (
	"slices"

	"instar/api"
	"instar/attr"
	"instar/change"
	"instar/forest"
	"instar/name"
	"instar/valid"
)

// work is a forest that is being changed, by a step that may be refused: it is changed only when it is known
// that the step may be.
type work struct{ *change.Work }

func begin(f api.Forest) work {
	return work{change.Begin(f)}
}

// end answers what came of it all; where it was refused, nothing was done.
func (w work) end(err error) (api.Forest, []api.Note, api.Errno) {
	return w.Forest, w.Notes, why(err)
}

// put puts n under p, ahead of child. Ahead of whom it comes is asked before anybody goes out.
func (w work) put(n, p, child int) {
	before, parts := valid.Before(w.Forest, n, p, child), valid.Parts(w.Forest, n)
	if w.Forest.Nodes[n].Kind == api.Frag {
		for _, part := range parts {
			w.GoOut(part)
		}
	}
	for _, part := range parts {
		w.Put(part, p, before)
	}
}

// alter gives n these attributes, which have changed by s.
func (w work) alter(n int, s string, l []api.Attr) {
	old, had := attr.Get(w.Forest.Nodes[n].Attrs, s)
	now, has := attr.Get(l, s)
	w.Forest.Nodes[n].Attrs = l
	w.Notes = append(w.Notes, api.Note{Kind: api.Changed, Node: n, Name: name.Small(s), Had: had, Has: has, Old: old, New: now})
}

// behind answers the child that stands behind n, which has a parent.
func behind(f api.Forest, n int) int {
	kids := f.Nodes[f.Nodes[n].Parent].Kids
	if at := slices.Index(kids, n) + 1; at < len(kids) {
		return kids[at]
	}
	return api.None
}

// knows tells whether f is right, and has the node n: else nobody has a root.
func knows(f api.Forest, n int) bool {
	return forest.Root(f, n) != api.None
}

// elemRefusal answers why n has no attributes.
func elemRefusal(f api.Forest, n int) api.Errno {
	switch {
	case !knows(f, n):
		return api.ErrArg
	case f.Nodes[n].Kind != api.Elem:
		return api.ErrTree
	}
	return api.OK
}
