package shade_test

import (
	"slices"
	"testing"

	"instar/api"
	"instar/forest"
)

// The chapter's words once more, each by itself and without haste, to hold the program against; for who
// knows that a forest is right.

func upByWords(f api.Forest, n int) int {
	if f.Nodes[n].Parent != api.None {
		return f.Nodes[n].Parent
	}
	return f.Nodes[n].Host
}

func topByWords(f api.Forest, n int) int {
	if upByWords(f, n) == api.None {
		return n
	}
	return topByWords(f, upByWords(f, n))
}

func overByWords(f api.Forest, a, b int) bool {
	if a == b {
		return true
	}
	return upByWords(f, b) != api.None && overByWords(f, a, upByWords(f, b))
}

func fullByWords(f api.Forest, n int) []int {
	order := []int{n}
	if f.Nodes[n].Under != api.None {
		order = append(order, fullByWords(f, f.Nodes[n].Under)...)
	}
	for _, kid := range f.Nodes[n].Kids {
		order = append(order, fullByWords(f, kid)...)
	}
	return order
}

func elemsByWords(f api.Forest, n int) []int {
	return slices.DeleteFunc(fullByWords(f, n), func(at int) bool { return f.Nodes[at].Kind != api.Elem })
}

// copyOf shares nothing with f, and has no spare room.
func copyOf(f api.Forest) api.Forest {
	g := api.Forest{Most: f.Most, Nodes: slices.Clip(slices.Clone(f.Nodes))}
	for i, n := range f.Nodes {
		g.Nodes[i].Attrs = slices.Clip(slices.Clone(n.Attrs))
		g.Nodes[i].Kids = slices.Clip(slices.Clone(n.Kids))
	}
	return g
}

func sameNode(a, b api.Node) bool {
	return slices.Equal(a.Attrs, b.Attrs) && slices.Equal(a.Kids, b.Kids) &&
		a.Kind == b.Kind && a.Name == b.Name && a.Is == b.Is && a.Data == b.Data &&
		a.Parent == b.Parent && a.Host == b.Host && a.Under == b.Under && a.Doc == b.Doc
}

func same(f, g api.Forest) bool {
	return f.Most == g.Most && slices.EqualFunc(f.Nodes, g.Nodes, sameNode)
}

// Right forests for the tests.

func elem(n string) api.Node { return api.Node{Kind: api.Elem, Name: n} }

func text(data string) api.Node { return api.Node{Kind: api.Text, Data: data} }

// plant makes these nodes in f, where that has to succeed.
func plant(t *testing.T, f api.Forest, nodes ...api.Node) api.Forest {
	t.Helper()
	for _, n := range nodes {
		g, _, err := forest.Make(f, n)
		if err != api.OK {
			t.Fatalf("Make(%v): %d", n, err)
		}
		f = g
	}
	return f
}

// newForest is a Doc and these nodes.
func newForest(t *testing.T, most int, nodes ...api.Node) api.Forest {
	t.Helper()
	f, err := forest.New(most)
	if err != api.OK {
		t.Fatalf("New(%d): %d", most, err)
	}
	return plant(t, f, nodes...)
}

// hang puts the kids under p, by hand.
func hang(f api.Forest, p int, kids ...int) {
	f.Nodes[p].Kids = append(f.Nodes[p].Kids, kids...)
	for _, kid := range kids {
		f.Nodes[kid].Parent = p
	}
}

// cast lays a Shade more in n's shadow, by hand.
func cast(f *api.Forest, n int) int {
	at := len(f.Nodes)
	f.Nodes[n].Under = at
	f.Nodes = append(f.Nodes, api.Node{Kind: api.Shade, Parent: api.None, Host: n, Under: api.None, Doc: f.Nodes[n].Doc})
	return at
}

// grove has all kinds of nodes, and shadows in shadows, in trees whose numbers go back and forth:
//
//	0 Doc: 3 p: 2 x-c: (4 Text, 1 x-a), 6 Text, 5 i
//	3's shadow, 12 Shade: 7 u (in its shadow, 13 Shade: 9 Text, 8 span), 10 Text;   2's, 14 Shade, empty
//	11 Frag: 15 li, 16 Text, 17 div (in its shadow, 18 Shade: 19 x-d)
//	20 Doc, and of it 21 div, alone, with its Text 22, 23 p, alone (in its shadow, 24 Shade: 25 b);   26 Text, alone
func grove(t *testing.T) api.Forest {
	f := newForest(t, 40,
		api.Node{Kind: api.Elem, Name: "x-a", Is: "x-b", Attrs: []api.Attr{{Name: "a", Value: "1"}, {Name: "b-c"}}},
		elem("x-c"), elem("p"), text("t"), elem("i"), text(""), elem("u"), elem("span"), text("n"), text("\"\x00\xff"),
		api.Node{Kind: api.Frag})
	hang(f, 0, 3)
	hang(f, 3, 2, 6, 5)
	hang(f, 2, 4, 1)
	hang(f, cast(&f, 3), 7, 10)
	hang(f, cast(&f, 7), 9, 8)
	cast(&f, 2)
	f = plant(t, f, elem("li"), text("x"), elem("div"))
	hang(f, 11, 15, 16, 17)
	shade := cast(&f, 17)
	f = plant(t, f, elem("x-d"), api.Node{Kind: api.Doc})
	hang(f, shade, 19)
	f = plant(t, f, api.Node{Kind: api.Elem, Name: "div", Doc: 20}, api.Node{Kind: api.Text, Data: "y", Doc: 20}, api.Node{Kind: api.Elem, Name: "p", Doc: 20})
	hang(f, 21, 22)
	shade = cast(&f, 23)
	f = plant(t, f, api.Node{Kind: api.Elem, Name: "b", Doc: 20}, text("z"))
	hang(f, shade, 25)
	return f
}

// chain is a Doc and Elems, so many nodes (or one more), each Elem in the one before, or, where shadows is true, in its shadow.
func chain(t *testing.T, count int, shadows bool) api.Forest {
	f := newForest(t, 400)
	for p := 0; len(f.Nodes) < count; p = len(f.Nodes) - 1 {
		if shadows && f.Nodes[p].Kind == api.Elem {
			p = cast(&f, p)
		}
		f = plant(t, f, elem("x-e"))
		hang(f, p, len(f.Nodes)-1)
	}
	return f
}

// wide is an Elem with shadowed Elems, the last one first, so many nodes in all.
func wide(t *testing.T, count int) api.Forest {
	f := newForest(t, 400, elem("e"))
	var kids []int
	for len(f.Nodes)+1 < count {
		kids = append(kids, len(f.Nodes))
		f = plant(t, f, elem("x-e"))
		cast(&f, len(f.Nodes)-1)
	}
	slices.Reverse(kids)
	hang(f, 1, kids...)
	return f
}

// full is f with no room left.
func full(f api.Forest) api.Forest {
	f.Most = len(f.Nodes)
	return f
}

func rightForests(t *testing.T) map[string]api.Forest {
	t.Helper()
	loose := newForest(t, 9, elem("p"))
	cast(&loose, 1)
	all := map[string]api.Forest{
		"one Doc":          newForest(t, 1),
		"grove":            grove(t),
		"grove, full":      full(grove(t)),
		"two Docs":         newForest(t, 2, api.Node{Kind: api.Doc}),
		"chain":            chain(t, 10, false),
		"chain of shadows": chain(t, 9, true),
		"deepest":          chain(t, 400, false),
		"deepest shadows":  chain(t, 400, true),
		"widest":           wide(t, 400),
		"a Shade, no kids": loose,
	}
	for what, f := range all {
		if !forest.Right(f) {
			t.Fatalf("%s isn't right", what)
		}
	}
	return all
}

const (
	greatest = int(^uint(0) >> 1)
	least    = -greatest - 1
)

// wrongForests are groves, each with one fault.
func wrongForests(t *testing.T) map[string]api.Forest {
	t.Helper()
	wrong := map[string]api.Forest{"nothing": {}, "no node": {Most: 9}}
	for what, spoil := range map[string]func(f *api.Forest){
		"Most 0":                  func(f *api.Forest) { f.Most = 0 },
		"Most 401":                func(f *api.Forest) { f.Most = 401 },
		"Most too small":          func(f *api.Forest) { f.Most = len(f.Nodes) - 1 },
		"the node 0 no Doc":       func(f *api.Forest) { f.Nodes[0].Kind = api.Frag },
		"Kind 5":                  func(f *api.Forest) { f.Nodes[26].Kind = 5 },
		"a name with capitals":    func(f *api.Forest) { f.Nodes[1].Name = "X-a" },
		"a Text with a name":      func(f *api.Forest) { f.Nodes[26].Name = "x-a" },
		"a Doc that isn't there":  func(f *api.Forest) { f.Nodes[26].Doc = 99 },
		"a Doc that is None":      func(f *api.Forest) { f.Nodes[26].Doc = api.None },
		"a child twice":           func(f *api.Forest) { f.Nodes[2].Kids = []int{4, 1, 4} },
		"a child that isn't":      func(f *api.Forest) { f.Nodes[2].Kids = []int{4, 1, 99} },
		"a child that is None":    func(f *api.Forest) { f.Nodes[2].Kids = []int{4, 1, -1} },
		"a child of another":      func(f *api.Forest) { f.Nodes[11].Kids = []int{15, 16, 17, 6} },
		"a parent without it":     func(f *api.Forest) { f.Nodes[26].Parent = 3 },
		"its own parent":          func(f *api.Forest) { hang(*f, 21, 21) },
		"its own grandparent":     func(f *api.Forest) { f.Nodes[0].Kids = nil; f.Nodes[3].Parent = api.None; hang(*f, 2, 3) },
		"in its own shadow":       func(f *api.Forest) { hang(*f, 24, 23) },
		"a Shade without a Host":  func(f *api.Forest) { f.Nodes[12].Host = api.None },
		"a Shade of another Host": func(f *api.Forest) { f.Nodes[12].Host = 5 },
		"a shadow that isn't":     func(f *api.Forest) { f.Nodes[1].Under = 99 },
		"another's shadow":        func(f *api.Forest) { f.Nodes[1].Under = 12 },
		"a Text's shadow":         func(f *api.Forest) { f.Nodes[26].Under = 12 },
		"an Elem's Host":          func(f *api.Forest) { f.Nodes[1].Host = 3 },
		"great numbers":           func(f *api.Forest) { f.Nodes[1].Under = greatest; f.Nodes[5].Under = least },
	} {
		f := grove(t)
		spoil(&f)
		if forest.Right(f) {
			t.Fatalf("%s is right", what)
		}
		wrong[what] = f
	}
	return wrong
}
