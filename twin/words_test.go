package twin_test

import (
	"slices"
	"strconv"
	"strings"
	"testing"

	"instar/api"
	"instar/forest"
	"instar/move"
	"instar/sample"
	"instar/shade"
	"instar/twin"
)

// The chapter's words once more, one by one and without haste, by the calls of the layers below, to hold
// the program against; for who knows that a forest is right, and has the nodes.

// deed is what a call answers: of a node made its number, else None.
type deed struct {
	f     api.Forest
	n     int
	notes []api.Note
	err   api.Errno
}

// call is a deed that is still to be done to some forest.
type call func(f api.Forest) deed

func copied(n, doc int, deep bool) call {
	return func(f api.Forest) deed {
		g, at, err := twin.Copy(f, n, doc, deep)
		return deed{f: g, n: at, err: err}
	}
}

func taken(n, doc int) call {
	return func(f api.Forest) deed {
		g, notes, err := twin.Take(f, n, doc)
		return deed{f: g, n: api.None, notes: notes, err: err}
	}
}

func emptied(n int) call {
	return func(f api.Forest) deed {
		g, notes, err := twin.Empty(f, n)
		return deed{f: g, n: api.None, notes: notes, err: err}
	}
}

func joined(n int) call {
	return func(f api.Forest) deed {
		g, at, notes, err := twin.Join(f, n)
		return deed{f: g, n: at, notes: notes, err: err}
	}
}

// checkCall checks what a call answers, that a forest stays right by it, and that what is handed in stays
// and shares nothing with the answer.
func checkCall(t *testing.T, what string, f api.Forest, do call, want deed) {
	t.Helper()
	var got deed
	g, fault := sample.Ask(f, func(f api.Forest) api.Forest {
		got = do(f)
		return got.f
	})
	if got.n != want.n || got.err != want.err || !slices.Equal(got.notes, want.notes) {
		t.Errorf("%s: %d, %v, %d, not %d, %v, %d", what, got.n, got.notes, got.err, want.n, want.notes, want.err)
	}
	if !sample.Same(g, want.f) {
		t.Errorf("%s: came to\n%v, not\n%v", what, g, want.f)
	}
	if got.err == api.OK && !forest.Right(g) {
		t.Errorf("%s: came to what isn't right", what)
	}
	if fault != "" {
		t.Errorf("%s: %s", what, fault)
	}
}

// refusedBy is what is answered with an error.
func refusedBy(f api.Forest, err api.Errno) deed {
	return deed{f: f, n: api.None, err: err}
}

// copyInto lays a copy of n behind all of f's nodes, and answers its number.
func copyInto(f *api.Forest, n, doc int, deep bool) int {
	at, old := len(f.Nodes), f.Nodes[n]
	node := api.Node{
		Kind: old.Kind, Name: old.Name, Is: old.Is, Data: old.Data, Attrs: slices.Clone(old.Attrs),
		Parent: api.None, Host: api.None, Under: api.None, Doc: doc,
	}
	switch old.Kind {
	case api.Shade:
		node.Kind = api.Frag
	case api.Doc:
		node.Doc = at
	}
	f.Nodes = append(f.Nodes, node)
	if deep {
		for _, kid := range old.Kids {
			sample.Hang(*f, at, copyInto(f, kid, node.Doc, true))
		}
	}
	return at
}

func copyByWords(f api.Forest, n, doc int, deep bool) deed {
	g := sample.Copy(f)
	at := copyInto(&g, n, doc, deep)
	if len(g.Nodes) > f.Most {
		return refusedBy(f, api.ErrFull)
	}
	return deed{f: g, n: at}
}

func takeByWords(f api.Forest, n, doc int) deed {
	node := f.Nodes[n]
	if node.Kind == api.Doc || node.Kind == api.Shade {
		return refusedBy(f, api.ErrTree)
	}
	d := deed{f: sample.Copy(f), n: api.None}
	if node.Parent != api.None {
		d.f, d.notes, d.err = move.Remove(d.f, n)
	}
	if node.Doc != doc {
		for _, at := range shade.All(f, n) {
			d.f.Nodes[at].Doc = doc
		}
		d.notes = append(d.notes, sample.Moved(node.Doc, doc, shade.Elems(f, n)...)...)
	}
	return d
}

func emptyByWords(f api.Forest, n int) deed {
	d := deed{f: sample.Copy(f), n: api.None}
	for _, kid := range f.Nodes[n].Kids {
		g, notes, _ := move.Remove(d.f, kid)
		d.f, d.notes = g, append(d.notes, notes...)
	}
	return d
}

func joinByWords(f api.Forest, n int) deed {
	if f.Nodes[n].Kind == api.Text {
		return refusedBy(f, api.ErrTree)
	}
	g, at, err := forest.Make(f, api.Node{Kind: api.Frag, Doc: f.Nodes[n].Doc})
	d := deed{f: g, n: at, err: err}
	if err != api.OK {
		return d
	}
	for _, kid := range f.Nodes[n].Kids {
		g, notes, _ := move.Insert(d.f, kid, at, api.None)
		d.f, d.notes = g, append(d.notes, notes...)
	}
	return d
}

// say is all that has to be the same of nodes that are alike, as text: the attributes in the order of their
// names.
func say(f api.Forest, n int) string {
	var s strings.Builder
	node := f.Nodes[n]
	s.WriteString(strconv.Itoa(node.Kind) + "<" + node.Name + " " + node.Is + strconv.Quote(node.Data))
	attrs := slices.Clone(node.Attrs)
	slices.SortFunc(attrs, func(a, b api.Attr) int { return strings.Compare(a.Name, b.Name) })
	for _, a := range attrs {
		s.WriteString(" " + a.Name + strconv.Quote(a.Value))
	}
	for _, kid := range node.Kids {
		s.WriteString(say(f, kid))
	}
	return s.String() + ">"
}

// docs answers the numbers of f's Docs.
func docs(f api.Forest) []int {
	var l []int
	for n, node := range f.Nodes {
		if node.Kind == api.Doc {
			l = append(l, n)
		}
	}
	return l
}

// checkWords checks each call that there is of these nodes of f.
func checkWords(t *testing.T, what string, f api.Forest, some []int) {
	t.Helper()
	for _, n := range some {
		node := what + ", " + strconv.Itoa(n)
		for _, doc := range docs(f) {
			to := node + ", " + strconv.Itoa(doc)
			checkCall(t, to+": copy", f, copied(n, doc, false), copyByWords(f, n, doc, false))
			checkCall(t, to+": deep copy", f, copied(n, doc, true), copyByWords(f, n, doc, true))
			checkCall(t, to+": take", f, taken(n, doc), takeByWords(f, n, doc))
		}
		checkCall(t, node+": empty", f, emptied(n), emptyByWords(f, n))
		checkCall(t, node+": join", f, joined(n), joinByWords(f, n))
	}
}

// P7.1, P7.2: all calls of small forests, with much room and with little.
func TestWords(t *testing.T) {
	for what, f := range sample.Meadows() {
		for _, room := range []int{f.Most - len(f.Nodes), 20, 3, 2, 1, 0} {
			f.Most = len(f.Nodes) + room
			var all []int
			for n := range f.Nodes {
				all = append(all, n)
			}
			checkWords(t, what+", room "+strconv.Itoa(room), f, all)
		}
	}
}

// P7.1, P7.2: some calls of the greatest forests, full and with room for one.
func TestGreat(t *testing.T) {
	for what, f := range sample.Great() {
		checkWords(t, what, f, []int{0, 1, 2, 3, 200, 397, 398, 399})
		f.Nodes = f.Nodes[:399]
		if what == "wide" {
			sample.Hang(f, 0, 1)
		}
		checkWords(t, what+", room", f, []int{0, 1, 2, 397, 398})
	}
}

// P7.1, P7.2: nothing is done where the forest isn't right, or somebody isn't there, or the document is none.
func TestNobody(t *testing.T) {
	for what, f := range sample.Wrong() {
		for n := -1; n <= len(f.Nodes); n++ {
			for _, do := range []call{copied(n, 0, false), copied(n, 20, true), copied(1, n, true), taken(n, 0), taken(n, 20), taken(1, n), emptied(n), joined(n)} {
				checkCall(t, what, f, do, refusedBy(f, api.ErrArg))
			}
		}
	}
	for what, f := range sample.Right() {
		for _, wrong := range sample.WrongNumbers(f) {
			for _, do := range []call{copied(wrong, 0, false), copied(wrong, 0, true), copied(0, wrong, false), copied(0, wrong, true), taken(wrong, 0), taken(0, wrong), emptied(wrong), joined(wrong)} {
				checkCall(t, what, f, do, refusedBy(f, api.ErrArg))
			}
		}
	}
	for _, f := range []api.Forest{sample.Grove(), sample.Full(sample.Grove())} {
		for n, node := range f.Nodes {
			if node.Kind == api.Doc {
				continue
			}
			for of := range f.Nodes {
				for _, do := range []call{copied(of, n, false), copied(of, n, true), taken(of, n)} {
					checkCall(t, "no Doc", f, do, refusedBy(f, api.ErrArg))
				}
			}
		}
	}
}
