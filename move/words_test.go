package move_test

import (
	"slices"
	"strings"

	"instar/api"
	"instar/sample"
	"instar/shade"
	"instar/valid"
)

// The chapter's words once more, one by one and without haste, by the calls of the layers below, to hold
// the program against; for who knows that a forest is right, and has the nodes.

// deed is what a call answers.
type deed struct {
	f     api.Forest
	notes []api.Note
	err   api.Errno
}

// call is a step that is still to be done to some forest.
type call func(f api.Forest) (api.Forest, []api.Note, api.Errno)

func (d *deed) tell(kind, from, to int, elems []int) {
	for _, n := range elems {
		d.notes = append(d.notes, api.Note{Kind: kind, Node: n, From: from, To: to})
	}
}

func (d *deed) goOut(n int) {
	if shade.Connected(d.f, n) {
		d.tell(api.Went, 0, 0, shade.Elems(d.f, n))
	}
	sample.Cut(d.f, n)
}

func (d *deed) takeOver(n, doc int) {
	if d.f.Nodes[n].Parent != api.None {
		d.goOut(n)
	}
	if old := d.f.Nodes[n].Doc; old != doc {
		all, elems := shade.All(d.f, n), shade.Elems(d.f, n)
		for _, at := range all {
			d.f.Nodes[at].Doc = doc
		}
		d.tell(api.Moved, old, doc, elems)
	}
}

func (d *deed) put(n, p, child int) {
	parts, before := valid.Parts(d.f, n), valid.Before(d.f, n, p, child)
	if d.f.Nodes[n].Kind == api.Frag {
		for _, part := range parts {
			d.goOut(part)
		}
	}
	for _, part := range parts {
		d.takeOver(part, d.f.Nodes[p].Doc)
		kids := d.f.Nodes[p].Kids
		at := len(kids)
		if before != api.None {
			at = slices.Index(kids, before)
		}
		d.f.Nodes[p].Kids = slices.Insert(kids, at, part)
		d.f.Nodes[part].Parent = p
		if shade.Connected(d.f, part) {
			d.tell(api.Came, 0, 0, shade.Elems(d.f, part))
		}
	}
}

func insertByWords(f api.Forest, n, p, child int) deed {
	d := deed{f: sample.Copy(f), err: valid.May(f, n, p, child)}
	if d.err == api.OK {
		d.put(n, p, child)
	}
	return d
}

func removeByWords(f api.Forest, n int) deed {
	d := deed{f: sample.Copy(f)}
	if f.Nodes[n].Parent == api.None {
		d.err = api.ErrNone
		return d
	}
	d.goOut(n)
	return d
}

func replaceByWords(f api.Forest, n, p, child int) deed {
	d := deed{f: sample.Copy(f), err: valid.Swap(f, n, p, child)}
	if d.err != api.OK {
		return d
	}
	kids := append(slices.Clone(f.Nodes[p].Kids), api.None)
	sought := kids[slices.Index(kids, child)+1]
	if sought == n {
		sought = kids[slices.Index(kids, n)+1]
	}
	d.goOut(child)
	d.put(n, p, sought)
	return d
}

// changeByWords gives the Elem n an attribute, in its small form, or, where has is false, takes it.
func changeByWords(f api.Forest, n int, s, value string, has bool) deed {
	d := deed{f: sample.Copy(f)}
	note := api.Note{Kind: api.Changed, Node: n, Name: strings.ToLower(s), Has: has, New: value}
	node := &d.f.Nodes[n]
	at := slices.IndexFunc(node.Attrs, func(a api.Attr) bool { return a.Name == note.Name })
	if at >= 0 {
		note.Had, note.Old = true, node.Attrs[at].Value
	}
	switch {
	case at < 0 && has:
		node.Attrs = append(node.Attrs, api.Attr{Name: note.Name, Value: value})
	case has:
		node.Attrs[at].Value = value
	case at < 0:
		return d
	default:
		node.Attrs = slices.Delete(node.Attrs, at, at+1)
	}
	d.notes = []api.Note{note}
	return d
}

// refusedBy is what is answered with an error.
func refusedBy(f api.Forest, err api.Errno) deed {
	return deed{f: f, err: err}
}
