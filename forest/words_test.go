package forest_test

import (
	"slices"
	"strings"
	"testing"

	"instar/api"
	"instar/attr"
	"instar/forest"
	"instar/name"
	"instar/sample"
)

// The chapter's words once more, each by itself and without haste, to hold the program against.

// rightByWords goes through the chapter's list of what makes a forest right.
func rightByWords(f api.Forest) bool {
	if f.Most < 1 || f.Most > 400 || len(f.Nodes) < 1 || len(f.Nodes) > f.Most || f.Nodes[0].Kind != api.Doc {
		return false
	}
	for n := range f.Nodes {
		if !docByWords(f, n) || !parentByWords(f, n) || !kidsByWords(f, n) || !shadowByWords(f, n) || !textsByWords(f.Nodes[n]) {
			return false
		}
	}
	for n := range f.Nodes {
		steps := 0
		for at := n; at != api.None; steps++ {
			if steps > len(f.Nodes) {
				return false
			}
			if f.Nodes[at].Parent != api.None {
				at = f.Nodes[at].Parent
			} else {
				at = f.Nodes[at].Host
			}
		}
	}
	return true
}

// kindOf answers a node's kind, and of what is no node one that there isn't.
func kindOf(f api.Forest, n int) int {
	if n < 0 || n >= len(f.Nodes) {
		return 99
	}
	return f.Nodes[n].Kind
}

func docByWords(f api.Forest, n int) bool {
	x := f.Nodes[n]
	if x.Kind < api.Doc || x.Kind > api.Shade || kindOf(f, x.Doc) != api.Doc {
		return false
	}
	return x.Kind != api.Doc || x.Doc == n
}

func parentByWords(f api.Forest, n int) bool {
	x := f.Nodes[n]
	if x.Parent == api.None {
		return true
	}
	if x.Kind == api.Doc || x.Kind == api.Frag || x.Kind == api.Shade {
		return false
	}
	kind := kindOf(f, x.Parent)
	may := kind == api.Doc || kind == api.Elem || kind == api.Frag || kind == api.Shade
	return may && slices.Contains(f.Nodes[x.Parent].Kids, n)
}

func kidsByWords(f api.Forest, n int) bool {
	x := f.Nodes[n]
	elems, texts := 0, 0
	for i, kid := range x.Kids {
		switch kindOf(f, kid) {
		case api.Elem:
			elems++
		case api.Text:
			texts++
		default:
			return false
		}
		if slices.Contains(x.Kids[:i], kid) || f.Nodes[kid].Parent != n || f.Nodes[kid].Doc != x.Doc {
			return false
		}
	}
	if x.Kind == api.Text && len(x.Kids) > 0 {
		return false
	}
	return x.Kind != api.Doc || texts == 0 && elems < 2
}

func shadowByWords(f api.Forest, n int) bool {
	x := f.Nodes[n]
	if x.Kind == api.Shade {
		if kindOf(f, x.Host) != api.Elem || f.Nodes[x.Host].Under != n || f.Nodes[x.Host].Doc != x.Doc {
			return false
		}
	} else if x.Host != api.None {
		return false
	}
	if x.Under == api.None {
		return true
	}
	return x.Kind == api.Elem && kindOf(f, x.Under) == api.Shade && f.Nodes[x.Under].Host == n
}

func textsByWords(x api.Node) bool {
	if x.Kind == api.Elem {
		if !name.Right(x.Name) || name.Small(x.Name) != x.Name || x.Is != "" && !name.Custom(x.Is) {
			return false
		}
	} else if x.Name != "" || x.Is != "" {
		return false
	}
	if x.Kind != api.Text && x.Data != "" || len(x.Data) > 200 {
		return false
	}
	return attr.Right(x.Attrs) && (x.Kind == api.Elem || len(x.Attrs) == 0)
}

// orderByWords is tree order, for who knows that there is an end.
func orderByWords(f api.Forest, n int) []int {
	order := []int{n}
	for _, kid := range f.Nodes[n].Kids {
		order = append(order, orderByWords(f, kid)...)
	}
	return order
}

// Right forests for the tests.

func long(bytes int) string { return strings.Repeat("d", bytes) }

// newForest is forest.New, where it has to succeed.
func newForest(t *testing.T, most int) api.Forest {
	t.Helper()
	f, err := forest.New(most)
	if err != api.OK {
		t.Fatalf("New(%d): %d", most, err)
	}
	return f
}

// plant makes these nodes in f, where that has to succeed.
func plant(t *testing.T, f api.Forest, nodes ...api.Node) api.Forest {
	t.Helper()
	for _, n := range nodes {
		g, at, err := forest.Make(f, n)
		if err != api.OK || at != len(f.Nodes) {
			t.Fatalf("Make(%v): %d, %d", n, at, err)
		}
		f = g
	}
	return f
}

// hang puts the kids under p, by hand.
func hang(f api.Forest, p int, kids ...int) {
	f.Nodes[p].Kids = kids
	for _, kid := range kids {
		f.Nodes[kid].Parent = p
	}
}

// grove has all kinds of nodes, in trees whose numbers go back and forth:
//
//	0 Doc: 3 p: 2 b: (4 Text, 1 x-a), 6 Text, 5 i
//	3's shadow, 12 Shade: 7 u (in its shadow, 13 Shade: 9 Text, 8 s), 10 Text
//	11 Frag: 14 li, 15 Text, 16 li;   17 Doc, 18 div of 17, alone: 19 Text of 17;   20 Text, alone
func grove(t *testing.T) api.Forest {
	f := plant(t, newForest(t, 30),
		api.Node{Kind: api.Elem, Name: "x-a", Is: "x-b", Attrs: []api.Attr{{Name: "a", Value: "1"}, {Name: "b-c"}}},
		sample.Elem("b"), sample.Elem("p"), sample.Text("t"), sample.Elem("i"), sample.Text(""), sample.Elem("u"), sample.Elem("s"), sample.Text("n"), sample.Text("\"\\\x00\xff"),
		api.Node{Kind: api.Frag})
	hang(f, 0, 3)
	hang(f, 3, 2, 6, 5)
	hang(f, 2, 4, 1)
	hang(f, sample.Cast(&f, 3), 7, 10)
	hang(f, sample.Cast(&f, 7), 9, 8)
	f = plant(t, f, sample.Elem("li"), sample.Text("x"), sample.Elem("li"), api.Node{Kind: api.Doc},
		api.Node{Kind: api.Elem, Name: "div", Doc: 17}, api.Node{Kind: api.Text, Data: "y", Doc: 17}, sample.Text("z"))
	hang(f, 11, 14, 15, 16)
	hang(f, 18, 19)
	return f
}

// chain is a Doc and Elems, so many nodes (or one more), each Elem in the one before, or, where shadows is true, in its shadow.
func chain(t *testing.T, count int, shadows bool) api.Forest {
	f := newForest(t, 400)
	for p := 0; len(f.Nodes) < count; p = len(f.Nodes) - 1 {
		if shadows && f.Nodes[p].Kind == api.Elem {
			p = sample.Cast(&f, p)
		}
		f = plant(t, f, sample.Elem("e"))
		hang(f, p, len(f.Nodes)-1)
	}
	return f
}

// upside is a chain that goes from its end, 1, up to the Doc.
func upside(t *testing.T, count int) api.Forest {
	f := newForest(t, 400)
	for len(f.Nodes) < count {
		f = plant(t, f, sample.Elem("e"))
	}
	for n := 2; n < count; n++ {
		hang(f, n, n-1)
	}
	hang(f, 0, count-1)
	return f
}

// wide is a Doc with an Elem with Texts, the last one first, so many nodes in all.
func wide(t *testing.T, count int) api.Forest {
	f := plant(t, newForest(t, 400), sample.Elem("e"))
	hang(f, 0, 1)
	var kids []int
	for len(f.Nodes) < count {
		kids = append(kids, len(f.Nodes))
		f = plant(t, f, sample.Text("t"))
	}
	slices.Reverse(kids)
	hang(f, 1, kids...)
	return f
}

func rightForests(t *testing.T) map[string]api.Forest {
	t.Helper()
	empties := grove(t)
	for i, n := range empties.Nodes {
		empties.Nodes[i].Kids = append([]int{}, n.Kids...)
		empties.Nodes[i].Attrs = append([]api.Attr{}, n.Attrs...)
	}
	rich := plant(t, newForest(t, 9), sample.Elem(strings.Repeat("n", 40)), sample.Text(long(200)), sample.Elem("_"), sample.Elem("font-face"), sample.Elem("a.9-_"))
	for i := range 40 {
		rich.Nodes[1].Attrs = append(rich.Nodes[1].Attrs, api.Attr{Name: strings.Repeat("a", i+1), Value: long(200)})
	}
	rich.Nodes[3].Is = "x-" + strings.Repeat("n", 38)
	hang(rich, 3, 5)
	return map[string]api.Forest{
		"one Doc":            newForest(t, 1),
		"a Doc, much room":   newForest(t, 400),
		"grove":              grove(t),
		"grove, full":        sample.Full(grove(t)),
		"nil and empty":      empties,
		"greatest fields":    rich,
		"a Doc with a Doc":   plant(t, newForest(t, 2), api.Node{Kind: api.Doc}),
		"chain":              chain(t, 10, false),
		"chain of shadows":   chain(t, 9, true),
		"deepest":            chain(t, 400, false),
		"deepest, upside":    upside(t, 400),
		"deepest shadows":    chain(t, 400, true),
		"widest":             wide(t, 400),
		"a Shade, no kids":   loose(t),
		"Elems side by side": plant(t, newForest(t, 3), sample.Elem("a"), sample.Elem("a")),
	}
}

// loose is an Elem with a Shade, without children and parents.
func loose(t *testing.T) api.Forest {
	f := plant(t, newForest(t, 9), sample.Elem("p"))
	sample.Cast(&f, 1)
	return f
}
