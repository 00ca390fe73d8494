package twin_test

import (
	"slices"
	"testing"

	"instar/api"
	"instar/sample"
	"instar/twin"
)

var went, moved = sample.Went, sample.Moved

// P7.2: in the glade, to the own document and to another one, from a tree, a shadow, a Frag and nowhere; with
// all that is below, in shadows too, and nobody else.
func TestTake(t *testing.T) {
	for _, c := range []struct {
		n, doc int
		told   []api.Note
		all    []int
	}{
		{1, 0, went(1, 2, 4, 5), nil},
		{1, 7, slices.Concat(went(1, 2, 4, 5), moved(0, 7, 1, 2, 4, 5)), []int{1, 2, 3, 4, 5, 6}},
		{4, 0, went(4, 5), nil},
		{4, 23, slices.Concat(went(4, 5), moved(0, 23, 4, 5)), []int{4, 5, 6}},
		{5, 0, went(5), nil},
		{5, 23, slices.Concat(went(5), moved(0, 23, 5)), []int{5}},
		{3, 0, nil, nil},
		{3, 23, nil, []int{3}},
		{10, 26, moved(0, 26, 10, 11), []int{10, 11, 12}},
		{14, 0, nil, nil},
		{13, 0, nil, nil},
		{13, 7, moved(0, 7, 14, 15), []int{13, 14, 15}},
		{18, 23, moved(0, 23, 19), []int{18, 19, 20}},
		{8, 23, nil, []int{8}},
		{21, 0, nil, nil},
		{21, 23, moved(0, 23, 21), []int{21}},
		{22, 23, nil, []int{22}},
		{24, 23, went(24), nil},
		{24, 0, slices.Concat(went(24), moved(23, 0, 24)), []int{24}},
		{25, 0, moved(23, 0, 25), []int{25}},
		{25, 23, nil, nil},
	} {
		want := deed{f: sample.Glade(), n: api.None, notes: c.told}
		if want.f.Nodes[c.n].Parent != api.None {
			sample.Cut(want.f, c.n)
		}
		docOf(want.f, c.doc, c.all...)
		checkCall(t, "glade", sample.Glade(), taken(c.n, c.doc), want)
	}
	for _, n := range []int{0, 6, 7, 23, 26} {
		for _, doc := range []int{0, 7, 23} {
			checkCall(t, "a Doc, or a Shade", sample.Glade(), taken(n, doc), refusedBy(sample.Glade(), api.ErrTree))
		}
	}
}

// tellings is what is told when the children of the glade's nodes go, of those that have any, connected ones.
var tellings = map[int][]api.Note{0: went(1, 2, 4, 5), 1: went(2, 4, 5), 6: went(5), 23: went(24)}

// P7.2: all children go, in order, and nobody else: shadows stay. A Text has none to go.
func TestEmpty(t *testing.T) {
	for n, node := range sample.Glade().Nodes {
		want := deed{f: sample.Glade(), n: api.None, notes: tellings[n]}
		want.f.Nodes[n].Kids = nil
		for _, kid := range node.Kids {
			want.f.Nodes[kid].Parent = api.None
		}
		checkCall(t, "glade", sample.Glade(), emptied(n), want)
		checkCall(t, "full glade", sample.Full(sample.Glade()), emptied(n), deed{f: sample.Full(want.f), n: api.None, notes: want.notes})
	}
}

// P7.2: all children stand under the Frag, in order; it is of the same document, and the last node.
func TestJoin(t *testing.T) {
	for n, node := range sample.Glade().Nodes {
		if node.Kind == api.Text {
			continue
		}
		want := deed{f: sample.Glade(), n: 27, notes: tellings[n]}
		want.f.Nodes[n].Kids = nil
		want.f.Nodes = append(want.f.Nodes, api.Node{Kind: api.Frag, Parent: api.None, Host: api.None, Under: api.None, Doc: node.Doc})
		sample.Hang(want.f, 27, node.Kids...)
		checkCall(t, "glade", sample.Glade(), joined(n), want)
	}
	if f, at, _, err := twin.Join(sample.Glade(), 25); err != api.OK || f.Nodes[at].Doc != 23 {
		t.Errorf("what is joined of another document is %v, %d", f.Nodes[at:], err)
	}
}

// P7.2: a Text isn't joined, whether there is room or not; all others need room, though they have no children.
func TestJoinErrors(t *testing.T) {
	for n, node := range sample.Glade().Nodes {
		f := sample.Full(sample.Glade())
		want := api.ErrFull
		if node.Kind == api.Text {
			want = api.ErrTree
			checkCall(t, "a Text", sample.Glade(), joined(n), refusedBy(sample.Glade(), want))
		}
		checkCall(t, "full", f, joined(n), refusedBy(f, want))
		f.Most++
		if _, _, _, err := twin.Join(f, n); (err == api.OK) != (want == api.ErrFull) {
			t.Errorf("%d, with room for one: %d", n, err)
		}
	}
}
