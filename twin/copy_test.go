package twin_test

import (
	"slices"
	"testing"

	"instar/api"
	"instar/forest"
	"instar/sample"
	"instar/shade"
	"instar/twin"
)

// twins are the numbers of the grove's nodes from each node in tree order: whose copies are new, deep ones.
var twins = map[int][]int{
	0: {0, 3, 2, 4, 1, 6, 5}, 1: {1}, 2: {2, 4, 1}, 3: {3, 2, 4, 1, 6, 5}, 4: {4}, 7: {7}, 11: {11, 15, 16, 17},
	12: {12, 7, 10}, 13: {13, 9, 8}, 14: {14}, 17: {17}, 18: {18, 19}, 20: {20}, 21: {21, 22}, 23: {23}, 24: {24, 25}, 26: {26},
}

// P7.1, P7.3: whose copies are new in the grove, and numbered in tree order; each has what its node has, and
// nobody else's children, shadow or document; and all that was there is as it was.
func TestCopy(t *testing.T) {
	f := sample.Grove()
	for n, order := range twins {
		for _, doc := range []int{0, 20} {
			g, at, err := twin.Copy(f, n, doc, true)
			if err != api.OK || at != 27 || len(g.Nodes) != 27+len(order) || g.Most != f.Most {
				t.Fatalf("%d: %d, %d, %d nodes", n, at, err, len(g.Nodes))
			}
			if !sample.Same(api.Forest{Nodes: g.Nodes[:27], Most: f.Most}, f) {
				t.Errorf("%d: what was there isn't as it was", n)
			}
			if order[0] == 0 || order[0] == 20 {
				doc = 27
			}
			for i, node := range g.Nodes[27:] {
				checkTwin(t, f.Nodes[order[i]], node, doc)
				checkKids(t, order, f.Nodes[order[i]].Kids, node.Kids)
			}
			if !slices.Equal(forest.Order(g, 27), count(27, len(order))) || !slices.Equal(shade.All(g, 27), count(27, len(order))) {
				t.Errorf("%d: the copy has %v, and %v", n, forest.Order(g, 27), shade.All(g, 27))
			}
		}
	}
}

// count is so many numbers, one on the other.
func count(from, many int) []int {
	var l []int
	for i := range many {
		l = append(l, from+i)
	}
	return l
}

// checkTwin checks what a copy has by itself.
func checkTwin(t *testing.T, of, node api.Node, doc int) {
	t.Helper()
	kind := of.Kind
	if kind == api.Shade {
		kind = api.Frag
	}
	if node.Kind != kind || node.Name != of.Name || node.Is != of.Is || node.Data != of.Data || !slices.Equal(node.Attrs, of.Attrs) {
		t.Errorf("%v is no copy of %v", node, of)
	}
	if node.Doc != doc || node.Host != api.None || node.Under != api.None {
		t.Errorf("the copy %v is of %d, and has a shadow, or is one", node, doc)
	}
}

// checkKids checks that a copy's children are those of the children.
func checkKids(t *testing.T, order, kids, twins []int) {
	t.Helper()
	var want []int
	for _, kid := range kids {
		want = append(want, 27+slices.Index(order, kid))
	}
	if !slices.Equal(twins, want) {
		t.Errorf("the copy's children are %v, not %v", twins, want)
	}
}

// P7.1: one that isn't deep is one node, without children.
func TestCopyAlone(t *testing.T) {
	f := sample.Grove()
	for n, node := range f.Nodes {
		g, at, err := twin.Copy(f, n, 20, false)
		doc := 20
		if node.Kind == api.Doc {
			doc = 27
		}
		if err != api.OK || at != 27 || len(g.Nodes) != 28 || len(g.Nodes[27].Kids) > 0 || g.Nodes[27].Parent != api.None {
			t.Fatalf("%d: %d, %d, %v", n, at, err, g.Nodes[27:])
		}
		checkTwin(t, node, g.Nodes[27], doc)
	}
}

// P7.1: there is room for all that are copied, or for none; shadows need none.
func TestCopyFull(t *testing.T) {
	f := sample.Grove()
	for n, order := range twins {
		for room := range 9 {
			f.Most = 27 + room
			want := api.OK
			if room < len(order) {
				want = api.ErrFull
			}
			if g, at, err := twin.Copy(f, n, 0, true); err != want || err != api.OK && (at != api.None || !sample.Same(f, g)) {
				t.Errorf("%d, with room for %d: %d, %d", n, room, at, err)
			}
			if _, _, err := twin.Copy(f, n, 0, false); (err == api.OK) != (room > 0) {
				t.Errorf("%d alone, with room for %d: %d", n, room, err)
			}
		}
	}
	for count, want := range map[int]api.Errno{200: api.OK, 201: api.ErrFull} {
		f := sample.Chain(count, false)
		checkCall(t, "half of all", f, copied(0, 0, true), copyByWords(f, 0, 0, true))
		if _, _, err := twin.Copy(f, 0, 0, true); err != want {
			t.Errorf("%d nodes twice: %d", count, err)
		}
	}
}

// P7.3: a deep copy is alike, but for a Shade's kind; one that isn't deep is so if there are no children.
func TestCopyAlike(t *testing.T) {
	for what, f := range sample.Meadows() {
		f.Most = api.MaxNodes
		for n, node := range f.Nodes {
			g, at, _ := twin.Copy(f, n, 0, true)
			h, alone, _ := twin.Copy(f, n, 0, false)
			if node.Kind != api.Shade {
				if !twin.Alike(g, n, at) || twin.Alike(h, alone, n) != (len(node.Kids) == 0) {
					t.Errorf("%s: %d and its copies aren't alike", what, n)
				}
				continue
			}
			if twin.Alike(g, n, at) || !slices.EqualFunc(node.Kids, g.Nodes[at].Kids, func(a, b int) bool { return twin.Alike(g, a, b) }) {
				t.Errorf("%s: the Shade %d is alike, or its children aren't", what, n)
			}
		}
	}
}

// The chapter's example.
func TestExample(t *testing.T) {
	f := sample.Forest(9, sample.Elem("p"), sample.Text("t"))
	sample.Hang(f, 1, 2)
	if g, at, err := twin.Copy(f, 1, 0, true); err != api.OK || at != 3 || len(g.Nodes) != 5 || !slices.Equal(g.Nodes[3].Kids, []int{4}) || g.Nodes[4].Data != "t" {
		t.Errorf("%v, %d, %d", g, at, err)
	}
}
