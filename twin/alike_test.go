package twin_test

import (
	"strings"
	"testing"

	"instar/api"
	"instar/forest"
	"instar/sample"
	"instar/twin"
)

// pair is two trees that are alike, of a node of each kind that may stand in one, and two documents:
// 1 x-a: 2 Text, 3 p: 4 b;   5 x-a: 6 Text, 7 p: 8 b;   9 Doc, and of it 10 Frag, and 11 Text
func pair() api.Forest {
	f := sample.Forest(20)
	for p := 1; p < 9; p += 4 {
		f = sample.Plant(f,
			api.Node{Kind: api.Elem, Name: "x-a", Is: "x-b", Attrs: []api.Attr{{Name: "a", Value: "1"}, {Name: "b", Value: "2"}}},
			sample.Text("t"), sample.Elem("p"), sample.Elem("b"))
		sample.Hang(f, p, p+1, p+2)
		sample.Hang(f, p+2, p+3)
	}
	return sample.Plant(f, api.Node{Kind: api.Doc}, sample.Of(9, api.Node{Kind: api.Frag}), sample.Of(9, sample.Text("t")))
}

// P7.1: what of the second tree must be the same, and what needn't.
func TestAlike(t *testing.T) {
	attr := func(n string, v string) api.Attr { return api.Attr{Name: n, Value: v} }
	for what, c := range map[string]struct {
		alike bool
		do    func(f *api.Forest)
	}{
		"the same":             {true, func(f *api.Forest) {}},
		"attributes turned":    {true, func(f *api.Forest) { f.Nodes[5].Attrs = []api.Attr{attr("b", "2"), attr("a", "1")} }},
		"in a tree":            {true, func(f *api.Forest) { sample.Hang(*f, 0, 5) }},
		"with a shadow":        {true, func(f *api.Forest) { sample.Cast(f, 5); sample.Cast(f, 8) }},
		"of another document":  {true, func(f *api.Forest) { docOf(*f, 9, 5, 6, 7, 8) }},
		"a full shadow":        {true, func(f *api.Forest) { sample.Cast(f, 7); docOf(*f, 0, 11); sample.Hang(*f, 12, 11) }},
		"another name":         {false, func(f *api.Forest) { f.Nodes[5].Name = "x-b" }},
		"another Is":           {false, func(f *api.Forest) { f.Nodes[5].Is = "x-a" }},
		"no Is":                {false, func(f *api.Forest) { f.Nodes[5].Is = "" }},
		"another value":        {false, func(f *api.Forest) { f.Nodes[5].Attrs[1].Value = "3" }},
		"another attribute":    {false, func(f *api.Forest) { f.Nodes[5].Attrs[1].Name = "c" }},
		"an attribute less":    {false, func(f *api.Forest) { f.Nodes[5].Attrs = f.Nodes[5].Attrs[:1] }},
		"an attribute more":    {false, func(f *api.Forest) { f.Nodes[5].Attrs = append(f.Nodes[5].Attrs, attr("c", "")) }},
		"other data":           {false, func(f *api.Forest) { f.Nodes[6].Data = "T" }},
		"deep, another name":   {false, func(f *api.Forest) { f.Nodes[8].Name = "i" }},
		"deep, an attribute":   {false, func(f *api.Forest) { f.Nodes[8].Attrs = []api.Attr{attr("a", "")} }},
		"children turned":      {false, func(f *api.Forest) { f.Nodes[5].Kids = []int{7, 6} }},
		"the last child less":  {false, func(f *api.Forest) { sample.Cut(*f, 7) }},
		"the first child less": {false, func(f *api.Forest) { sample.Cut(*f, 6) }},
		"deep, no child":       {false, func(f *api.Forest) { sample.Cut(*f, 8) }},
		"a child more":         {false, func(f *api.Forest) { docOf(*f, 0, 11); sample.Hang(*f, 5, 11) }},
		"deep, a child more":   {false, func(f *api.Forest) { docOf(*f, 0, 11); sample.Hang(*f, 8, 11) }},
	} {
		f := pair()
		c.do(&f)
		if !forest.Right(f) {
			t.Errorf("%s: not the forest that was meant", what)
		}
		if twin.Alike(f, 1, 5) != c.alike || twin.Alike(f, 5, 1) != c.alike {
			t.Errorf("%s: told to be alike: %v", what, !c.alike)
		}
	}
}

// docOf makes these nodes the document's.
func docOf(f api.Forest, doc int, all ...int) {
	for _, n := range all {
		f.Nodes[n].Doc = doc
	}
}

// P7.1: nodes of two kinds aren't alike, though all else is.
func TestAlikeKinds(t *testing.T) {
	f := sample.Forest(9, sample.Text(""), api.Node{Kind: api.Frag}, sample.Elem("p"))
	sample.Cast(&f, 3)
	for a := range f.Nodes {
		for b := range f.Nodes {
			if twin.Alike(f, a, b) != (a == b) {
				t.Errorf("%d and %d: told to be alike: %v", a, b, a != b)
			}
		}
	}
}

// P7.1: all pairs of small forests, some nodes of which have a twin.
func TestAlikeWords(t *testing.T) {
	found := 0
	for what, f := range sample.Meadows() {
		f.Most = api.MaxNodes
		for n := 1; n < 20; n += 5 {
			f = copyByWords(f, n, 0, n > 6).f
		}
		texts := make([]string, len(f.Nodes))
		for n := range f.Nodes {
			texts[n] = say(f, n)
		}
		if !sample.Untouched(f, func(f api.Forest) {
			for a := range f.Nodes {
				for b := range f.Nodes {
					alike := texts[a] == texts[b]
					if twin.Alike(f, a, b) != alike {
						t.Errorf("%s: %d and %d: told to be alike: %v", what, a, b, !alike)
					}
					if alike && a != b && strings.Count(texts[a], ">") > 1 {
						found++
					}
				}
			}
		}) {
			t.Errorf("%s: what was handed in has changed", what)
		}
	}
	if found < 30 {
		t.Errorf("only %d pairs with children were alike", found)
	}
}

// P7.1: of the deepest trees the last node counts, and of the widest the last child.
func TestAlikeGreat(t *testing.T) {
	if f := sample.Chain(api.MaxNodes, false); !twin.Alike(f, 0, 0) || twin.Alike(f, 1, 2) {
		t.Error("the deepest tree isn't alike itself, or is alike a part")
	}
	for what, f := range map[string]api.Forest{"deep": sample.Chain(200, false), "wide": sample.Wide(260)} {
		f, at, err := twin.Copy(f, 1, 0, true)
		if err != api.OK || !twin.Alike(f, 1, at) {
			t.Errorf("%s: not alike: %d", what, err)
		}
		f.Nodes[len(f.Nodes)-1].Is = "x-z"
		if twin.Alike(f, 1, at) || twin.Alike(f, at, 1) {
			t.Errorf("%s: alike, though the last one isn't", what)
		}
	}
}

// P7.1: who isn't there is like nobody, nor is anybody where the forest isn't right.
func TestAlikeNobody(t *testing.T) {
	for what, f := range sample.Right() {
		for _, wrong := range sample.WrongNumbers(f) {
			if twin.Alike(f, wrong, wrong) || twin.Alike(f, 0, wrong) || twin.Alike(f, wrong, 0) {
				t.Errorf("%s: %d is alike", what, wrong)
			}
		}
	}
	for what, f := range sample.Wrong() {
		for n := -1; n <= len(f.Nodes); n++ {
			if twin.Alike(f, n, n) {
				t.Errorf("%s: %d is alike", what, n)
			}
		}
	}
}
