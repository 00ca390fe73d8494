package owner_test

import (
	"slices"
	"strconv"
	"strings"
	"testing"

	"instar/api"
	"instar/forest"
	"instar/move"
	"instar/owner"
	"instar/sample"
	"instar/shade"
)

// P13.1, P13.2: all kinds of forests, against the chapter's words; they stay as they are.
func TestWords(t *testing.T) {
	for what, f := range sample.Papers() {
		if !sample.Untouched(f, func(f api.Forest) {
			if l := owner.All(f); !slices.Equal(l, allByWords(f)) {
				t.Errorf("%s: All is %v, not %v", what, l, allByWords(f))
			}
			for _, n := range sample.Some(f) {
				if at := owner.Of(f, n); at != ofByWords(f, n) {
					t.Errorf("%s: Of(%d) = %d, not %d", what, n, at, ofByWords(f, n))
				}
				if l := owner.Members(f, n); !slices.Equal(l, membersByWords(f, n)) {
					t.Errorf("%s: Members(%d) = %v, not %v", what, n, l, membersByWords(f, n))
				}
			}
		}) {
			t.Errorf("%s: changed what was handed in", what)
		}
	}
}

// P13.3: an owner is a form of the same tree, and an Elem is a member of its owner, and of nobody else.
func TestOneOwner(t *testing.T) {
	owned, chosen := 0, 0
	for seed := range 1000 {
		f := sample.Bureau(seed)
		times := make([]int, len(f.Nodes))
		for x := range f.Nodes {
			for _, n := range owner.Members(f, x) {
				times[n]++
				if owner.Of(f, n) != x {
					t.Errorf("%d: %d is a member of %d, but its owner is %d", seed, n, x, owner.Of(f, n))
				}
			}
		}
		for n, x := range owner.All(f) {
			if x == api.None {
				if times[n] != 0 {
					t.Errorf("%d: %d has no owner, but is a member", seed, n)
				}
				continue
			}
			if times[n] != 1 || f.Nodes[n].Kind != api.Elem || f.Nodes[x].Name != "form" || forest.Root(f, x) != forest.Root(f, n) {
				t.Errorf("%d: %d is owned by %d, and %d times a member", seed, n, x, times[n])
			}
			owned++
			if !forest.Holds(f, x, n) {
				chosen++
			}
		}
	}
	if owned < 1000 || chosen < 100 {
		t.Errorf("only %d have an owner, and %d of another place", owned, chosen)
	}
}

// P13.1: an attribute form counts only while it is connected: taken out, all are owned by who holds them, or
// by nobody.
func TestTakenOut(t *testing.T) {
	lost := 0
	for seed := range 500 {
		f := sample.Bureau(seed)
		before := owner.All(f)
		for _, n := range f.Nodes[0].Kids {
			g, _, err := move.Remove(f, n)
			if err != api.OK {
				t.Fatalf("%d: %d can't be taken out", seed, n)
			}
			for at, x := range owner.All(g) {
				if shade.Over(g, n, at) && x != api.None && !forest.Holds(g, x, at) {
					t.Errorf("%d: %d is loose, and owned by %d", seed, at, x)
				}
				if !shade.Over(g, n, at) && x != before[at] {
					t.Errorf("%d: %d wasn't taken out, and is owned by %d, not %d", seed, at, x, before[at])
				}
				if x != before[at] {
					lost++
				}
			}
		}
	}
	if lost < 100 {
		t.Errorf("only %d lost an owner", lost)
	}
}

// P13.1, P13.2: an answer is the caller's own: who changes it changes no other one, nor what was handed in.
func TestOwn(t *testing.T) {
	f := sample.Rooted(`<form id="f"><i></i><b form="f"></b></form>`)
	for range 2 {
		all, members := owner.All(f), owner.Members(f, 1)
		if !slices.Equal(all, []int{-1, -1, 1, 1}) || !slices.Equal(members, []int{2, 3}) {
			t.Errorf("All is %v, Members are %v", all, members)
		}
		for _, l := range [][]int{all, members} {
			for i := range l[:cap(l)] {
				l[:cap(l)][i] = 999
			}
		}
	}
	if !sample.Same(f, sample.Rooted(`<form id="f"><i></i><b form="f"></b></form>`)) {
		t.Error("what was handed in has changed")
	}
}

// laden gives each Elem of f as many attributes as there may be, with long names and values, form and id among
// them: all choose the id that the last Elem has, and each of the others has one that nobody chooses.
func laden(f api.Forest) (api.Forest, int) {
	last := api.None
	for n := range f.Nodes {
		e := &f.Nodes[n]
		if e.Kind != api.Elem {
			continue
		}
		e.Name, last = "form", n
		for i := range api.MaxAttrs - 2 {
			e.Attrs = append(e.Attrs, api.Attr{Name: strings.Repeat("n", 38) + strconv.Itoa(10+i), Value: strings.Repeat("v", api.MaxValue)})
		}
		id := strconv.Itoa(n)
		e.Attrs = append(e.Attrs,
			api.Attr{Name: "id", Value: strings.Repeat("i", api.MaxValue-len(id)) + id},
			api.Attr{Name: "form", Value: strings.Repeat("f", api.MaxValue)})
	}
	f.Nodes[last].Attrs[api.MaxAttrs-2].Value = strings.Repeat("f", api.MaxValue)
	return f, last
}

// P13.1, P13.2: the greatest forests, whose Elems have as many attributes as there may be, with the longest
// names and values.
func TestGreatest(t *testing.T) {
	wide := sample.Wide(api.MaxNodes)
	sample.Hang(wide, 0, 1)
	for what, f := range map[string]api.Forest{"deepest": sample.Chain(api.MaxNodes, false), "deepest shadows": sample.Chain(api.MaxNodes, true), "widest": wide} {
		f, last := laden(f)
		if !forest.Right(f) {
			t.Fatalf("%s: isn't right", what)
		}
		if l := owner.All(f); !slices.Equal(l, allByWords(f)) {
			t.Errorf("%s: not as in the words", what)
		}
		want := membersByWords(f, last)
		if l := owner.Members(f, last); !slices.Equal(l, want) || len(l) == 0 || owner.Of(f, last) != last {
			t.Errorf("%s: the last one has %d members, not %d", what, len(l), len(want))
		}
	}
}
