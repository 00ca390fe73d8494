package forest_test

import (
	"slices"
	"strconv"
	"testing"

	"instar/api"
	"instar/forest"
	"instar/sample"
)

// checkMake makes n in f, and checks the answer, and that what was handed in stays: the forest, the node's lists.
func checkMake(t *testing.T, what string, f api.Forest, n api.Node, want api.Forest, number int, fault api.Errno) {
	t.Helper()
	given, whole := sample.Roomy(f)
	attrs, kids := slices.Clone(n.Attrs), slices.Clone(n.Kids)
	n.Attrs = append(slices.Clone(n.Attrs), api.Attr{Name: "spare"})[:len(attrs)]
	n.Kids = append(slices.Clone(n.Kids), 77)[:len(kids)]
	g, at, err := forest.Make(given, n)
	if !sample.Same(g, want) || at != number || err != fault {
		t.Errorf("%s: Make = %v, %d, %d, not %v, %d, %d", what, g, at, err, want, number, fault)
	}
	if err == api.OK && !rightByWords(g) {
		t.Errorf("%s: made what isn't right: %v", what, g)
	}
	if !sample.Stays(given, whole) {
		t.Errorf("%s: Make changed the forest that was handed in", what)
	}
	sample.Scribble(g)
	if !sample.Stays(given, whole) || !slices.Equal(n.Attrs, attrs) || !slices.Equal(n.Kids, kids) {
		t.Errorf("%s: Make's answer shares memory with what was handed in", what)
	}
	if n.Attrs[:cap(n.Attrs)][len(attrs)].Name != "spare" || n.Kids[:cap(n.Kids)][len(kids)] != 77 {
		t.Errorf("%s: Make changed the node's spare room", what)
	}
}

// with is f with a node more.
func with(f api.Forest, n api.Node) api.Forest {
	g := sample.Copy(f)
	g.Nodes = append(g.Nodes, n)
	return g
}

// P3.1: New, of each Most that may be, and of those that may not.
func TestNew(t *testing.T) {
	doc := api.Node{Kind: api.Doc, Parent: api.None, Host: api.None, Under: api.None}
	for most := -3; most < 450; most++ {
		want, fault := api.Forest{Nodes: []api.Node{doc}, Most: most}, api.OK
		if most < 1 || most > 400 {
			want, fault = api.Forest{}, api.ErrArg
		}
		f, err := forest.New(most)
		if !sample.Same(f, want) || err != fault || forest.Right(f) != (fault == api.OK) {
			t.Errorf("New(%d) = %v, %d", most, f, err)
		}
	}
	for _, most := range []int{sample.Least, -401, -400, 1 << 20, sample.Greatest} {
		if f, err := forest.New(most); !sample.Same(f, api.Forest{}) || err != api.ErrArg {
			t.Errorf("New(%d) = %v, %d", most, f, err)
		}
	}
	one, other := newForest(t, 9), newForest(t, 9)
	sample.Scribble(one)
	if !sample.Same(other, newForest(t, 9)) {
		t.Error("two new forests share memory")
	}
}

// P3.1: a node of each kind, of each document, with all that it may have.
func TestMake(t *testing.T) {
	f := grove(t)
	attrs := []api.Attr{{Name: "b", Value: "2"}, {Name: "a", Value: long(200)}}
	for _, doc := range []int{0, 17} {
		for what, n := range map[string]api.Node{
			"Elem":             sample.Elem("p"),
			"Elem, all fields": {Kind: api.Elem, Name: "x-a", Is: "x-b", Attrs: attrs},
			"Text":             sample.Text(long(200)),
			"Text of nothing":  sample.Text(""),
			"Frag":             {Kind: api.Frag},
		} {
			n.Parent, n.Host, n.Under, n.Doc = api.None, api.None, api.None, doc
			checkMake(t, what, f, n, with(f, n), 21, api.OK)
		}
	}
	checkMake(t, "Doc", f, api.Node{}, with(f, api.Node{Parent: api.None, Host: api.None, Under: api.None, Doc: 21}), 21, api.OK)
}

// P3.1: what else a node says doesn't count: where it stands, its children, its shadow, and whose a Doc is.
func TestMakeAlone(t *testing.T) {
	f := grove(t)
	for _, v := range []int{0, 3, 11, 12, 17, 20, 21, 22, -1, -2, sample.Greatest, sample.Least} {
		for _, n := range []api.Node{sample.Elem("p"), sample.Text("t"), {Kind: api.Frag}, {Kind: api.Doc, Doc: v}} {
			want := n
			want.Parent, want.Host, want.Under = api.None, api.None, api.None
			if n.Kind == api.Doc {
				want.Doc = 21
			}
			n.Parent, n.Host, n.Under, n.Kids = v, v, v, []int{v, 4, v}
			checkMake(t, "beside "+strconv.Itoa(v), f, n, with(f, want), 21, api.OK)
		}
	}
}

// wrongNodes are none that can be made in the grove, each for one reason.
func wrongNodes() map[string]api.Node {
	return map[string]api.Node{
		"Shade":                 {Kind: api.Shade, Host: 5},
		"Shade without a Host":  {Kind: api.Shade, Host: api.None, Parent: api.None, Under: api.None},
		"Shade of a Shade":      {Kind: api.Shade, Host: 3},
		"Kind 5":                {Kind: 5},
		"Kind -1":               {Kind: -1},
		"greatest Kind":         {Kind: sample.Greatest},
		"Elem without a name":   {Kind: api.Elem},
		"Elem with a capital":   sample.Elem("P"),
		"Elem with a wrong one": sample.Elem("9"),
		"Elem with a known Is":  {Kind: api.Elem, Name: "p", Is: "p"},
		"Elem with a wrong Is":  {Kind: api.Elem, Name: "p", Is: "X-a"},
		"Elem with data":        {Kind: api.Elem, Name: "p", Data: "d"},
		"Elem, wrong attribute": {Kind: api.Elem, Name: "p", Attrs: []api.Attr{{Name: "A"}}},
		"Elem, an attr. twice":  {Kind: api.Elem, Name: "p", Attrs: []api.Attr{{Name: "a"}, {Name: "a"}}},
		"Elem of no Doc":        {Kind: api.Elem, Name: "p", Doc: 3},
		"Elem of None":          {Kind: api.Elem, Name: "p", Doc: api.None},
		"Elem of itself":        {Kind: api.Elem, Name: "p", Doc: 21},
		"Elem of nobody":        {Kind: api.Elem, Name: "p", Doc: 22},
		"Text of 201 bytes":     sample.Text(long(201)),
		"Text with a name":      {Kind: api.Text, Name: "p"},
		"Text with an Is":       {Kind: api.Text, Is: "x-a"},
		"Text with attributes":  {Kind: api.Text, Attrs: []api.Attr{{Name: "a"}}},
		"Text of a Frag":        {Kind: api.Text, Doc: 11},
		"Frag with data":        {Kind: api.Frag, Data: "d"},
		"Frag with a name":      {Kind: api.Frag, Name: "p"},
		"Frag with an Is":       {Kind: api.Frag, Is: "x-a"},
		"Frag with attributes":  {Kind: api.Frag, Attrs: []api.Attr{{Name: "a"}}},
		"Frag of itself":        {Kind: api.Frag, Doc: 21},
		"Doc with data":         {Kind: api.Doc, Data: "d"},
		"Doc with a name":       {Kind: api.Doc, Name: "p"},
		"Doc with an Is":        {Kind: api.Doc, Is: "x-a"},
		"Doc with attributes":   {Kind: api.Doc, Attrs: []api.Attr{{Name: "a"}}},
	}
}

// P3.1: what wouldn't be right is ErrArg, and is so where there is no room, too.
func TestMakeWrong(t *testing.T) {
	for what, n := range wrongNodes() {
		checkMake(t, what, grove(t), n, grove(t), api.None, api.ErrArg)
		checkMake(t, what+", full", sample.Full(grove(t)), n, sample.Full(grove(t)), api.None, api.ErrArg)
	}
	n := sample.Text(long(201))
	checkMake(t, "400 nodes", wide(t, 400), n, wide(t, 400), api.None, api.ErrArg)
}

// P3.1: nothing is made in a forest that isn't right, and it stays as it is.
func TestMakeInWrong(t *testing.T) {
	for _, do := range changes(21) {
		f := grove(t)
		do(&f)
		if rightByWords(f) {
			continue
		}
		checkMake(t, "Elem", f, sample.Elem("p"), f, api.None, api.ErrArg)
		f.Most = 21
		checkMake(t, "Doc, full", f, api.Node{}, f, api.None, api.ErrArg)
		checkMake(t, "Kind 9, full", f, api.Node{Kind: 9}, f, api.None, api.ErrArg)
	}
	for _, most := range []int{sample.Least, -1, 0, 1, 20, 401, sample.Greatest} {
		f := grove(t)
		f.Most = most
		checkMake(t, "Most "+strconv.Itoa(most), f, sample.Elem("p"), f, api.None, api.ErrArg)
		checkMake(t, "no node", api.Forest{Most: most}, api.Node{}, api.Forest{Most: most}, api.None, api.ErrArg)
	}
}

// P3.1: there is room for Most nodes, and not for one more.
func TestMakeFull(t *testing.T) {
	for _, n := range []api.Node{sample.Elem("p"), sample.Text("t"), {Kind: api.Frag}, {Kind: api.Doc}} {
		for _, most := range []int{1, 2, 21, 399, 400} {
			f := newForest(t, most)
			for len(f.Nodes) < most {
				f = plant(t, f, n)
			}
			checkMake(t, "full", f, n, f, api.None, api.ErrFull)
		}
		f := grove(t)
		checkMake(t, "full grove", sample.Full(f), n, sample.Full(f), api.None, api.ErrFull)
	}
}

// P3.1: whom Make answers may be changed without the other lists of the answer.
func TestMakeShares(t *testing.T) {
	for _, n := range []api.Node{sample.Elem("p"), {Kind: 9}} {
		f, _, _ := forest.Make(grove(t), n)
		before := sample.Copy(f)
		for i := range f.Nodes {
			f.Nodes[i].Kids = append(f.Nodes[i].Kids, 1, 2, 3)
			f.Nodes[i].Attrs = append(f.Nodes[i].Attrs, api.Attr{Name: "mine"})
		}
		for i, n := range before.Nodes {
			f.Nodes[i].Kids, f.Nodes[i].Attrs = f.Nodes[i].Kids[:len(n.Kids)], f.Nodes[i].Attrs[:len(n.Attrs)]
		}
		if !sample.Same(f, before) {
			t.Errorf("lists of one answer share memory: %v", f)
		}
	}
}
