package sample

import (
	"slices"

	"instar/api"
)

// The greatest number, and the least one.
const (
	Greatest = int(^uint(0) >> 1)
	Least    = -Greatest - 1
)

// Grove has all kinds of nodes, and shadows in shadows, in trees whose numbers go back and forth:
//
//	0 Doc: 3 p: 2 x-c: (4 Text, 1 x-a), 6 Text, 5 i
//	3's shadow, 12 Shade: 7 u (in its shadow, 13 Shade: 9 Text, 8 span), 10 Text;   2's, 14 Shade, empty
//	11 Frag: 15 li, 16 Text, 17 div (in its shadow, 18 Shade: 19 x-d)
//	20 Doc, and of it 21 div, alone, with its Text 22, 23 p, alone (in its shadow, 24 Shade: 25 b);   26 Text, alone
func Grove() api.Forest {
	f := Forest(40,
		api.Node{Kind: api.Elem, Name: "x-a", Is: "x-b", Attrs: []api.Attr{{Name: "a", Value: "1"}, {Name: "b-c"}}},
		Elem("x-c"), Elem("p"), Text("t"), Elem("i"), Text(""), Elem("u"), Elem("span"), Text("n"), Text("\"\x00\xff"),
		api.Node{Kind: api.Frag})
	Hang(f, 0, 3)
	Hang(f, 3, 2, 6, 5)
	Hang(f, 2, 4, 1)
	shade := Cast(&f, 3)
	Hang(f, shade, 7, 10)
	shade = Cast(&f, 7)
	Hang(f, shade, 9, 8)
	Cast(&f, 2)
	f = Plant(f, Elem("li"), Text("x"), Elem("div"))
	Hang(f, 11, 15, 16, 17)
	shade = Cast(&f, 17)
	f = Plant(f, Elem("x-d"), api.Node{Kind: api.Doc})
	Hang(f, shade, 19)
	f = Plant(f, Of(20, Elem("div")), Of(20, Text("y")), Of(20, Elem("p")))
	Hang(f, 21, 22)
	shade = Cast(&f, 23)
	f = Plant(f, Of(20, Elem("b")), Text("z"))
	Hang(f, shade, 25)
	return f
}

// Glade has each kind of Doc and of Frag, by what stands in them:
//
//	0 Doc: 1 div: 2 b, 3 Text, 4 p;   4's shadow, 6 Shade: 5 x-a;   7 Doc, empty
//	Frags: 8, empty;   9: 10 ul: (11 li, 12 Text);   13: 14 i, 15 i;   16: 17 Text;   18: 19 b, 20 Text
//	21 a, alone;   22 Text, alone;   23 Doc: 24 div;   25 p of 23, alone;   26 Doc, empty
func Glade() api.Forest {
	doc, frag := api.Node{Kind: api.Doc}, api.Node{Kind: api.Frag}
	f := Forest(30, Elem("div"), Elem("b"), Text("t"), Elem("p"), Elem("x-a"))
	Hang(f, 0, 1)
	Hang(f, 1, 2, 3, 4)
	shade := Cast(&f, 4)
	Hang(f, shade, 5)
	f = Plant(f, doc, frag, frag, Elem("ul"), Elem("li"), Text("u"),
		frag, Elem("i"), Elem("i"), frag, Text("v"), frag, Elem("b"), Text(""),
		Elem("a"), Text("w"), doc)
	Hang(f, 9, 10)
	Hang(f, 10, 11, 12)
	Hang(f, 13, 14, 15)
	Hang(f, 16, 17)
	Hang(f, 18, 19, 20)
	f = Plant(f, Of(23, Elem("div")), Of(23, Elem("p")), doc)
	Hang(f, 23, 24)
	return f
}

// Clan has elements that Desk's definitions are for, and such as they only seem to be for:
//
//	0 Doc: 9 div: 7 x-a!x-c, 6 Text, 1 button!x-c, 11 x-b, 10 button!x-a, 8 button, 4 x-c, 12 x-c!x-c,
//	3 p!x-c, 14 button!x-b, 15 p!x-a;   under 7: 5 x-a!x-b, and in its shadow, 16 Shade: 13 button!x-c: 2 x-a
//	17 Frag: 18 x-a, 19 button!x-c;   20 x-a, alone;   21 div, alone (in its shadow, 23 Shade: 22 x-a)
//	24 Doc: 25 x-a: 26 button!x-c, both of it, and so 27 x-a, alone
func Clan() api.Forest {
	f := Forest(40, ElemIs("button", "x-c"), Elem("x-a"), ElemIs("p", "x-c"), Elem("x-c"), ElemIs("x-a", "x-b"), Text("t"),
		ElemIs("x-a", "x-c"), Elem("button"), Elem("div"), ElemIs("button", "x-a"), Elem("x-b"), ElemIs("x-c", "x-c"),
		ElemIs("button", "x-c"), ElemIs("button", "x-b"), ElemIs("p", "x-a"))
	Hang(f, 0, 9)
	Hang(f, 9, 7, 6, 1, 11, 10, 8, 4, 12, 3, 14, 15)
	Hang(f, 7, 5)
	shade := Cast(&f, 7)
	Hang(f, shade, 13)
	Hang(f, 13, 2)
	f = Plant(f, api.Node{Kind: api.Frag}, Elem("x-a"), ElemIs("button", "x-c"), Elem("x-a"), Elem("div"), Elem("x-a"))
	Hang(f, 17, 18, 19)
	shade = Cast(&f, 21)
	Hang(f, shade, 22)
	f = Plant(f, api.Node{Kind: api.Doc})
	f = Plant(f, Of(24, Elem("x-a")), Of(24, ElemIs("button", "x-c")), Of(24, Elem("x-a")))
	Hang(f, 24, 25)
	Hang(f, 25, 26)
	return f
}

// Chain is a Doc and Elems, so many nodes (or one more), each Elem in the one before, or, where shadows is
// true, in its shadow.
func Chain(count int, shadows bool) api.Forest {
	f := Forest(api.MaxNodes)
	for p := 0; len(f.Nodes) < count; p = len(f.Nodes) - 1 {
		if shadows && f.Nodes[p].Kind == api.Elem {
			p = Cast(&f, p)
		}
		f = Plant(f, Elem("x-e"))
		Hang(f, p, len(f.Nodes)-1)
	}
	return f
}

// Wide is an Elem with shadowed Elems, the last one first, so many nodes in all.
func Wide(count int) api.Forest {
	f := Forest(api.MaxNodes, Elem("e"))
	var kids []int
	for len(f.Nodes)+1 < count {
		kids = append(kids, len(f.Nodes))
		f = Plant(f, Elem("x-e"))
		Cast(&f, len(f.Nodes)-1)
	}
	slices.Reverse(kids)
	Hang(f, 1, kids...)
	return f
}

// Great answers the greatest forests, with room for no more; each has a second document, the last node.
func Great() map[string]api.Forest {
	all := map[string]api.Forest{}
	for what, f := range map[string]api.Forest{
		"deep":         Chain(api.MaxNodes-1, false),
		"deep shadows": Chain(api.MaxNodes-2, true),
		"wide":         Wide(api.MaxNodes - 1),
		"wide Frag":    Wide(api.MaxNodes - 1),
	} {
		for len(f.Nodes) < api.MaxNodes {
			f = Plant(f, api.Node{Kind: api.Doc})
		}
		all[what] = f
	}
	f := all["wide Frag"]
	f.Nodes[1].Kind, f.Nodes[1].Name = api.Frag, ""
	return all
}

// Right answers forests that are right, the greatest ones among them.
func Right() map[string]api.Forest {
	loose := Forest(9, Elem("p"))
	Cast(&loose, 1)
	return map[string]api.Forest{
		"one Doc":          Forest(1),
		"grove":            Grove(),
		"grove, full":      Full(Grove()),
		"two Docs":         Forest(2, api.Node{Kind: api.Doc}),
		"chain":            Chain(10, false),
		"chain of shadows": Chain(9, true),
		"deepest":          Chain(api.MaxNodes, false),
		"deepest shadows":  Chain(api.MaxNodes, true),
		"widest":           Wide(api.MaxNodes),
		"a Shade, no kids": loose,
	}
}

// Wrong answers what is no forest, and groves, each with one fault.
func Wrong() map[string]api.Forest {
	wrong := map[string]api.Forest{"nothing": {}, "no node": {Most: 9}}
	for what, spoil := range map[string]func(f *api.Forest){
		"Most 0":                  func(f *api.Forest) { f.Most = 0 },
		"Most 401":                func(f *api.Forest) { f.Most = 401 },
		"Most too small":          func(f *api.Forest) { f.Most = len(f.Nodes) - 1 },
		"the node 0 no Doc":       func(f *api.Forest) { f.Nodes[0].Kind = api.Frag },
		"Kind 5":                  func(f *api.Forest) { f.Nodes[26].Kind = 5 },
		"a name with capitals":    func(f *api.Forest) { f.Nodes[1].Name = "X-a" },
		"a Text with a name":      func(f *api.Forest) { f.Nodes[26].Name = "x-a" },
		"a Doc that isn't there":  func(f *api.Forest) { f.Nodes[26].Doc = 99 },
		"a Doc that is None":      func(f *api.Forest) { f.Nodes[26].Doc = api.None },
		"a child twice":           func(f *api.Forest) { f.Nodes[2].Kids = []int{4, 1, 4} },
		"a child that isn't":      func(f *api.Forest) { f.Nodes[2].Kids = []int{4, 1, 99} },
		"a child that is None":    func(f *api.Forest) { f.Nodes[2].Kids = []int{4, 1, -1} },
		"a child of another":      func(f *api.Forest) { f.Nodes[11].Kids = []int{15, 16, 17, 6} },
		"a parent without it":     func(f *api.Forest) { f.Nodes[26].Parent = 3 },
		"its own parent":          func(f *api.Forest) { Hang(*f, 21, 21) },
		"its own grandparent":     func(f *api.Forest) { Cut(*f, 3); Hang(*f, 2, 3) },
		"in its own shadow":       func(f *api.Forest) { Hang(*f, 24, 23) },
		"a Shade without a Host":  func(f *api.Forest) { f.Nodes[12].Host = api.None },
		"a Shade of another Host": func(f *api.Forest) { f.Nodes[12].Host = 5 },
		"a shadow that isn't":     func(f *api.Forest) { f.Nodes[1].Under = 99 },
		"another's shadow":        func(f *api.Forest) { f.Nodes[1].Under = 12 },
		"a Text's shadow":         func(f *api.Forest) { f.Nodes[26].Under = 12 },
		"an Elem's Host":          func(f *api.Forest) { f.Nodes[1].Host = 3 },
		"great numbers":           func(f *api.Forest) { f.Nodes[1].Under = Greatest; f.Nodes[5].Under = Least },
	} {
		f := Grove()
		spoil(&f)
		wrong[what] = f
	}
	return wrong
}

// WrongNumbers answers numbers of no node of f.
func WrongNumbers(f api.Forest) []int {
	count := len(f.Nodes)
	return []int{-1, -2, -3, -4, -400, Least, count, count + 1, 400, 401, 1 << 20, Greatest/2 + 1, Greatest}
}

// Some answers numbers of nodes of f: all, or, of a great forest, the ends and a few between.
func Some(f api.Forest) []int {
	var l []int
	for n := range f.Nodes {
		if len(f.Nodes) < 30 || n < 4 || n > len(f.Nodes)-3 || n%97 < 2 {
			l = append(l, n)
		}
	}
	return l
}
