package shade_test

import (
	"strings"
	"testing"

	"instar/api"
	"instar/forest"
	"instar/name"
	"instar/sample"
	"instar/shade"
)

// shadowed is f with a Shade in n's shadow, as the chapter says.
func shadowed(f api.Forest, n int) api.Forest {
	g := sample.Copy(f)
	sample.Cast(&g, n)
	return g
}

// checkAttach attaches a shadow, and checks the answer, and that what was handed in stays.
func checkAttach(t *testing.T, what string, f api.Forest, n int, fault api.Errno) {
	t.Helper()
	want, number := f, api.None
	if fault == api.OK {
		want, number = shadowed(f, n), len(f.Nodes)
	}
	at, err := 0, api.OK
	g, careless := sample.Ask(f, func(f api.Forest) api.Forest {
		f, at, err = shade.Attach(f, n)
		return f
	})
	if !sample.Same(g, want) || at != number || err != fault {
		t.Errorf("%s: Attach(%d) = %v, %d, %d, not %v, %d, %d", what, n, g, at, err, want, number, fault)
	}
	if err == api.OK && !forest.Right(g) {
		t.Errorf("%s: Attach(%d) made what isn't right: %v", what, n, g)
	}
	if careless != "" {
		t.Errorf("%s: Attach(%d): %s", what, n, careless)
	}
}

// P4.1: of each node of the grove, with room and without.
func TestAttach(t *testing.T) {
	faults := map[int]api.Errno{1: api.OK, 8: api.OK, 17: api.ErrAlready, 19: api.OK, 21: api.OK, 2: api.ErrAlready, 3: api.ErrAlready, 23: api.ErrAlready}
	f := sample.Grove()
	for n := range f.Nodes {
		fault, known := faults[n]
		if !known {
			fault = api.ErrTree
		}
		checkAttach(t, "grove", f, n, fault)
		if fault == api.OK {
			fault = api.ErrFull
		}
		checkAttach(t, "full grove", sample.Full(sample.Grove()), n, fault)
	}
}

// P4.1: a name that an element may have, and whether who bears it may have a shadow.
func TestAttachNames(t *testing.T) {
	all := map[string]bool{
		"div": true, "p": true, "span": true, "x-a": true, "a-": true, "div-p": true, "font-face-b": true, "x-" + strings.Repeat("n", 38): true,
		"b": false, "i": false, "u": false, "d": false, "divs": false, "di": false, "pp": false, "spa": false, "spans": false, "e": false, "x.a": false, "_-a": false,
		"font-face": false, "annotation-xml": false, "missing-glyph": false, "h1": false,
	}
	for _, known := range []string{"a", "button", "fieldset", "form", "input", "label", "legend", "li", "option", "output", "select", "template", "textarea", "ul"} {
		all[known] = false
	}
	for n, may := range all {
		fault := api.OK
		if !may {
			fault = api.ErrTree
		}
		checkAttach(t, n, sample.Forest(9, sample.Elem(n)), 1, fault)
		checkAttach(t, n+", which is an x-a", sample.Forest(9, api.Node{Kind: api.Elem, Name: n, Is: "x-a"}), 1, fault)
		if !name.Right(n) {
			t.Errorf("%s is no name", n)
		}
	}
}

// P4.1: the Shade is of the document of its element, which another one needn't be.
func TestAttachDoc(t *testing.T) {
	f := sample.Forest(9, api.Node{Kind: api.Doc}, api.Node{Kind: api.Elem, Name: "p", Doc: 1}, sample.Elem("p"))
	for n, doc := range map[int]int{2: 1, 3: 0} {
		g, at, err := shade.Attach(f, n)
		want := api.Node{Kind: api.Shade, Parent: api.None, Host: n, Under: api.None, Doc: doc}
		if err != api.OK || at != 4 || !sample.SameNode(g.Nodes[4], want) || g.Nodes[n].Under != 4 {
			t.Errorf("Attach(%d) = %v, %d, %d", n, g, at, err)
		}
	}
}

// P4.1: there is room for Most nodes, and not for one more.
func TestAttachFull(t *testing.T) {
	for _, most := range []int{2, 3, 399, 400} {
		f := sample.Forest(most)
		for len(f.Nodes) < most-1 {
			f = sample.Plant(f, sample.Text("t"))
		}
		f = sample.Plant(f, sample.Elem("p"))
		checkAttach(t, "full", f, most-1, api.ErrFull)
		if most < 400 {
			f.Most++
			checkAttach(t, "room for one", f, most-1, api.OK)
		}
	}
}

// P4.1: what may not be is told in the chapter's order: the argument, the tree, what is there already, the room.
func TestAttachErrors(t *testing.T) {
	f := sample.Forest(9, sample.Elem("u"), sample.Elem("u"), sample.Elem("p"))
	sample.Cast(&f, 1)
	sample.Cast(&f, 3)
	for n, fault := range map[int]api.Errno{0: api.ErrTree, 1: api.ErrTree, 2: api.ErrTree, 3: api.ErrAlready, 4: api.ErrTree} {
		checkAttach(t, "room", f, n, fault)
		checkAttach(t, "full", sample.Full(f), n, fault)
	}
	for what, f := range sample.Right() {
		for _, n := range sample.WrongNumbers(f) {
			checkAttach(t, what, f, n, api.ErrArg)
			checkAttach(t, what+", full", sample.Full(f), n, api.ErrArg)
		}
	}
	for what, f := range sample.Wrong() {
		for n := -1; n <= len(f.Nodes); n++ {
			checkAttach(t, what, f, n, api.ErrArg)
		}
	}
}
