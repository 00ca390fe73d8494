package sample_test

import (
	"slices"
	"strconv"
	"testing"

	"instar/api"
	"instar/forest"
	"instar/print"
	"instar/sample"
	"instar/shade"
)

// What is told to be right is so, what is told to be wrong isn't, and both come anew with each call.
func TestForests(t *testing.T) {
	for what, f := range sample.Right() {
		if !forest.Right(f) {
			t.Errorf("%s isn't right", what)
		}
		sample.Scribble(f)
	}
	for what, f := range sample.Wrong() {
		if forest.Right(f) {
			t.Errorf("%s is right", what)
		}
		sample.Scribble(f)
	}
	for _, all := range []map[string]api.Forest{sample.Right(), sample.Meadows(), sample.Great()} {
		for what, f := range all {
			if !forest.Right(f) {
				t.Errorf("%s isn't right, or not any more", what)
			}
		}
	}
}

// Of the greatest forests none has room, and each has a document more.
func TestGreat(t *testing.T) {
	for what, f := range sample.Great() {
		if len(f.Nodes) != api.MaxNodes || f.Most != api.MaxNodes || f.Nodes[399].Kind != api.Doc {
			t.Errorf("%s: not the forest that was meant", what)
		}
	}
}

// Tangles are right, the same for each seed, and others for others; among them are nodes of each kind, in
// and out of shadows and of a second document.
func TestTangles(t *testing.T) {
	kinds := make([]int, 5)
	under, beside, others := 0, 0, 0
	for seed := range 200 {
		f := sample.Tangle(seed)
		if !forest.Right(f) || !sample.Same(f, sample.Tangle(seed)) {
			t.Errorf("tangle %d isn't right, or another one when asked for again", seed)
		}
		if !sample.Same(f, sample.Tangle(seed+1)) {
			others++
		}
		for _, n := range f.Nodes {
			kinds[n.Kind]++
			if n.Parent != api.None {
				under++
			}
			if n.Doc != 0 {
				beside++
			}
		}
	}
	if min(kinds[0], kinds[1], kinds[2], kinds[3], kinds[4], under, beside) < 100 || others < 190 {
		t.Errorf("not the forests that were meant: %v, %d, %d, %d", kinds, under, beside, others)
	}
}

// The clan is right, and its nodes are those that are told of.
func TestClan(t *testing.T) {
	f := sample.Clan()
	if !forest.Right(f) || len(f.Nodes) != 28 || f.Nodes[13].Parent != f.Nodes[7].Under || f.Nodes[2].Parent != 13 || f.Nodes[26].Doc != 24 {
		t.Errorf("not the forest that was meant: %v", f)
	}
	for n, want := range map[int]api.Node{2: sample.Elem("x-a"), 5: sample.ElemIs("x-a", "x-b"), 13: sample.ElemIs("button", "x-c"), 19: sample.ElemIs("button", "x-c"), 22: sample.Elem("x-a"), 27: sample.Elem("x-a")} {
		if got := f.Nodes[n]; got.Name != want.Name || got.Is != want.Is {
			t.Errorf("the node %d is %s!%s", n, got.Name, got.Is)
		}
	}
}

// Masked tangles are right, the same for each seed, and have elements of each name and Is.
func TestMasked(t *testing.T) {
	found := map[[2]string]int{}
	for seed := range 200 {
		f := sample.Masked(seed)
		if !forest.Right(f) || !sample.Same(f, sample.Masked(seed)) {
			t.Errorf("masked %d isn't right, or another one when asked for again", seed)
		}
		for n, e := range sample.Tangle(seed).Nodes {
			if e.Kind == api.Elem {
				found[[2]string{f.Nodes[n].Name, f.Nodes[n].Is}]++
			}
		}
	}
	for _, s := range []string{"x-a", "x-b", "x-c", "button", "p"} {
		for _, is := range []string{"", "x-a", "x-b", "x-c"} {
			if found[[2]string{s, is}] < 20 {
				t.Errorf("%s!%s is seldom there: %v", s, is, found)
			}
		}
	}
}

// Bureaus are right, the same for each seed, and most of their elements are connected; many have each attribute.
func TestBureaus(t *testing.T) {
	elems, connected, found := 0, 0, map[string]int{}
	for seed := range 200 {
		f := sample.Bureau(seed)
		if !forest.Right(f) || len(f.Nodes) != 20 || !sample.Same(f, sample.Bureau(seed)) {
			t.Errorf("bureau %d isn't right, or another one when asked for again", seed)
		}
		for n, e := range f.Nodes {
			found["kind "+strconv.Itoa(e.Kind)]++
			if e.Kind != api.Elem {
				continue
			}
			elems++
			if shade.Connected(f, n) {
				connected++
			}
			found[e.Name]++
			for _, a := range e.Attrs {
				found[a.Name]++
				found[a.Name+"="+a.Value]++
			}
		}
	}
	for _, s := range []string{
		"kind 0", "kind 1", "kind 2", "kind 3", "kind 4", "form", "fieldset", "legend", "x-a", "title", "id", "disabled",
		"form=", "form=f", "form=g", "form=h", "id=", "id=f", "id=g",
	} {
		if found[s] < 50 {
			t.Errorf("%s is seldom there: %v", s, found)
		}
	}
	if elems < 2500 || connected < elems/2 {
		t.Errorf("of %d elements %d are connected", elems, connected)
	}
}

// What a text tells is the node 1 of a right forest, with room left, by itself or in the Doc.
func TestTexts(t *testing.T) {
	for _, s := range []string{`<p a="1"><b></b>"t"</p>`, `<x-a>{<i></i>}</x-a>`} {
		f, g := sample.Loose(s), sample.Rooted(s)
		if !forest.Right(f) || !forest.Right(g) || f.Nodes[1].Parent != api.None || g.Nodes[1].Parent != 0 || g.Most == len(g.Nodes) {
			t.Errorf("%s: not the forests that were meant: %v, %v", s, f, g)
		}
		if text, err := print.Put(g, 1); text != s || err != api.OK {
			t.Errorf("%s: told %s", s, text)
		}
		sample.Cut(g, 1)
		if !sample.Same(f, g) {
			t.Errorf("%s: loose it is another one", s)
		}
	}
	if f := sample.Loose(`["t"]`); !forest.Right(f) || f.Nodes[1].Kind != api.Frag {
		t.Errorf("not the Frag that was meant: %v", f)
	}
}

// Papers are right forests, wrong ones and bureaus, all of them.
func TestPapers(t *testing.T) {
	right, wrong := len(sample.Right())+300, len(sample.Wrong())
	for what, f := range sample.Papers() {
		if forest.Right(f) {
			right--
		} else {
			wrong--
		}
		if _, named := sample.Wrong()[what]; named == forest.Right(f) {
			t.Errorf("%s is right: %t", what, named)
		}
	}
	if right != 0 || wrong != 0 {
		t.Errorf("right ones lack %d, wrong ones %d", right, wrong)
	}
}

// Numbers are wrong where they are told to be so, and of nodes where they are told to be some.
func TestNumbers(t *testing.T) {
	for what, f := range sample.Right() {
		for _, n := range sample.WrongNumbers(f) {
			if 0 <= n && n < len(f.Nodes) {
				t.Errorf("%s has the node %d", what, n)
			}
		}
		for _, n := range sample.Some(f) {
			if n < 0 || n >= len(f.Nodes) {
				t.Errorf("%s has no node %d", what, n)
			}
		}
	}
}

// changes are ways to change a grove, in what it has and in its spare room.
func changes() []func(f api.Forest) {
	return []func(f api.Forest){
		func(f api.Forest) { f.Nodes[5].Kind = 9 },
		func(f api.Forest) { f.Nodes[5].Name = "u" },
		func(f api.Forest) { f.Nodes[5].Is = "x-a" },
		func(f api.Forest) { f.Nodes[4].Data = "u" },
		func(f api.Forest) { f.Nodes[1].Attrs[1].Value = "2" },
		func(f api.Forest) { f.Nodes[5].Parent = 4 },
		func(f api.Forest) { f.Nodes[3].Kids[0] = 4 },
		func(f api.Forest) { f.Nodes[12].Host = 4 },
		func(f api.Forest) { f.Nodes[3].Under = 4 },
		func(f api.Forest) { f.Nodes[26].Doc = 20 },
		func(f api.Forest) { f.Nodes[3].Kids = f.Nodes[3].Kids[:2] },
		func(f api.Forest) { f.Nodes[1].Attrs = nil },
		func(f api.Forest) { _ = append(f.Nodes, api.Node{}) },
		func(f api.Forest) { _ = append(f.Nodes[3].Kids, 1) },
		func(f api.Forest) { _ = append(f.Nodes[1].Attrs, api.Attr{}) },
		sample.Scribble,
	}
}

// Who changes what he is given, or its spare room, is found out; who doesn't, isn't.
func TestUntouched(t *testing.T) {
	if !sample.Untouched(sample.Grove(), func(f api.Forest) { forest.Order(f, 0) }) {
		t.Error("a call that changes nothing is told to change something")
	}
	for i, change := range changes() {
		if sample.Untouched(sample.Grove(), change) {
			t.Errorf("the change %d isn't seen", i)
		}
	}
}

// Who asks is told what the call answers, and how it isn't careful, if it isn't.
func TestAsk(t *testing.T) {
	want := sample.Grove()
	want.Nodes[5].Kids = []int{1, 2}
	answer := func(f api.Forest) api.Forest {
		g := sample.Copy(f)
		g.Nodes[5].Kids = []int{1, 2}
		return g
	}
	for what, call := range map[string]func(f api.Forest) api.Forest{
		"":                                 answer,
		"lists of the answer share memory": func(f api.Forest) api.Forest { g := answer(f); g.Nodes[6].Kids = g.Nodes[5].Kids[:0]; return g },
		"what was handed in is changed, or shared": func(f api.Forest) api.Forest { g := answer(f); g.Nodes[1].Attrs = f.Nodes[1].Attrs; return g },
	} {
		if g, fault := sample.Ask(sample.Grove(), call); fault != what || !sample.Same(g, want) {
			t.Errorf("%q: told %q, and answered %v", what, fault, g)
		}
	}
	for i, change := range changes() {
		if _, fault := sample.Ask(sample.Grove(), func(f api.Forest) api.Forest { change(f); return api.Forest{} }); fault == "" {
			t.Errorf("the change %d isn't seen", i)
		}
	}
	if g, fault := sample.Ask(sample.Grove(), func(f api.Forest) api.Forest { return f }); fault == "" || !sample.Same(g, sample.Grove()) {
		t.Errorf("what was handed in is answered, told %q: %v", fault, g)
	}
}

// What is told of elements names each of them, in order, and only of Moved the documents.
func TestNotes(t *testing.T) {
	for _, c := range []struct{ l, want []api.Note }{
		{sample.Came(), nil},
		{sample.Came(3, 1), []api.Note{{Kind: api.Came, Node: 3}, {Kind: api.Came, Node: 1}}},
		{sample.Went(2), []api.Note{{Kind: api.Went, Node: 2}}},
		{sample.Moved(7, 0, 1, 2), []api.Note{{Kind: api.Moved, Node: 1, From: 7}, {Kind: api.Moved, Node: 2, From: 7}}},
	} {
		if !slices.Equal(c.l, c.want) {
			t.Errorf("%v, not %v", c.l, c.want)
		}
	}
}

// Forests are the same just where all is.
func TestSame(t *testing.T) {
	if !sample.Same(sample.Grove(), sample.Copy(sample.Grove())) {
		t.Error("a copy isn't the same")
	}
	for i, change := range changes()[:12] {
		f, g := sample.Grove(), sample.Copy(sample.Grove())
		h := sample.Copy(f)
		change(h)
		if sample.Same(f, h) || !sample.Same(f, g) {
			t.Errorf("the change %s isn't seen, or one of a copy", strconv.Itoa(i))
		}
	}
	if sample.Same(sample.Grove(), sample.Full(sample.Grove())) || sample.Same(sample.Forest(9), sample.Forest(9, sample.Elem("p"))) {
		t.Error("other forests are the same")
	}
}

// Lists that share memory are found out, where they overlap or lie in another's spare room; others aren't.
func TestApart(t *testing.T) {
	share := []int{1, 2, 3, 4}
	attrs := []api.Attr{{Name: "a"}, {Name: "b"}}
	for i, c := range []struct {
		f     api.Forest
		apart bool
	}{
		{sample.Grove(), true}, {api.Forest{}, true},
		{api.Forest{Nodes: []api.Node{{Kids: share[:2]}, {}, {Kids: share[2:]}}}, false},
		{api.Forest{Nodes: []api.Node{{Kids: share[:2:2]}, {}, {Kids: share[2:]}}}, true},
		{api.Forest{Nodes: []api.Node{{Kids: share}, {}, {Kids: share}}}, false},
		{api.Forest{Nodes: []api.Node{{Kids: share[:0]}, {Kids: share[3:3]}}}, false},
		{api.Forest{Nodes: []api.Node{{Attrs: attrs[1:]}, {Attrs: attrs[:1]}}}, false},
		{api.Forest{Nodes: []api.Node{{Attrs: attrs[1:]}, {Attrs: attrs[:1:1]}}}, true},
	} {
		if sample.Apart(c.f) != c.apart {
			t.Errorf("the forest %d: told to be apart: %v", i, !c.apart)
		}
	}
}

// A test that asks for what there isn't is told so.
func TestPanics(t *testing.T) {
	for what, ask := range map[string]func(){
		"no room at all": func() { sample.Forest(0) },
		"no room":        func() { sample.Forest(1, sample.Elem("p")) },
		"no name":        func() { sample.Forest(9, sample.Elem("P")) },
		"no document":    func() { sample.Forest(9, sample.Of(1, sample.Text(""))) },
		"no text":        func() { sample.Loose(`<p>`) },
		"no text either": func() { sample.Rooted(`<p>`) },
		"a Doc's Text":   func() { sample.Rooted(`"t"`) },
		"a Doc's Frag":   func() { sample.Rooted(`[]`) },
	} {
		func() {
			defer func() {
				if recover() == nil {
					t.Errorf("%s: planted", what)
				}
			}()
			ask()
		}()
	}
}
