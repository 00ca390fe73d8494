package fresh_test

import (
	"slices"
	"testing"

	"instar/api"
	"instar/fresh"
)

// sample is two nodes, each with all its fields filled, and lists with room to spare.
func sample() api.Forest {
	node := func(n int) api.Node {
		attrs := []api.Attr{{Name: "a", Value: "1"}, {Name: "b", Value: "2"}, {Name: "spare"}}
		return api.Node{
			Kind: n, Name: "n", Is: "i", Data: "d", Attrs: attrs[:2],
			Parent: n + 1, Kids: []int{n, 7, 77}[:2], Host: n + 2, Under: n + 3, Doc: n + 4,
		}
	}
	return api.Forest{Nodes: []api.Node{node(1), node(11), {Name: "spare"}}[:2], Most: 9}
}

func same(f, g api.Forest) bool {
	return f.Most == g.Most && slices.EqualFunc(f.Nodes, g.Nodes, func(a, b api.Node) bool {
		return slices.Equal(a.Attrs, b.Attrs) && slices.Equal(a.Kids, b.Kids) &&
			a.Kind == b.Kind && a.Name == b.Name && a.Is == b.Is && a.Data == b.Data &&
			a.Parent == b.Parent && a.Host == b.Host && a.Under == b.Under && a.Doc == b.Doc
	})
}

// scribble changes all that hangs on f, spare room and all.
func scribble(f api.Forest) {
	all := f.Nodes[:cap(f.Nodes)]
	for i, n := range all {
		for j := range n.Kids[:cap(n.Kids)] {
			n.Kids[:cap(n.Kids)][j] = 999
		}
		for j := range n.Attrs[:cap(n.Attrs)] {
			n.Attrs[:cap(n.Attrs)][j] = api.Attr{Name: "mine", Value: "mine"}
		}
		all[i] = api.Node{Kind: 999, Name: "mine"}
	}
}

// A copy is the same, and neither it nor what it was made of sees what is done to the other.
func TestForest(t *testing.T) {
	for _, f := range []api.Forest{{}, {Nodes: []api.Node{}}, {Most: -3}, {Nodes: []api.Node{{}}, Most: 1}, sample()} {
		if g := fresh.Forest(f); !same(f, g) {
			t.Errorf("copy of %v: %v", f, g)
		}
	}
	f, g := sample(), fresh.Forest(sample())
	h := fresh.Forest(f)
	scribble(h)
	if !same(f, g) || f.Nodes[:3][2].Name != "spare" || f.Nodes[1].Kids[:3][2] != 77 || f.Nodes[1].Attrs[:3][2].Name != "spare" {
		t.Errorf("a change of the copy changed what it was made of: %v", f)
	}
	h = fresh.Forest(f)
	scribble(f)
	if !same(h, g) {
		t.Errorf("a change of what was handed in changed the copy: %v", h)
	}
}
