package heir_test

import (
	"slices"
	"strings"
	"testing"

	"instar/api"
	"instar/heir"
	"instar/sample"
)

// P10.1: who has a custom name, or an Is, is Open at first; all others are Plain.
func TestBorn(t *testing.T) {
	for _, s := range []string{"x-a", "a-", "x-a.b_c", "x-" + strings.Repeat("a", 38), "font-facet"} {
		for _, is := range []string{"", "x-a", "x-b", "p"} {
			if at := heir.Born(s, is); at != api.Open {
				t.Errorf("Born(%q, %q) = %d", s, is, at)
			}
		}
	}
	for _, s := range []string{"", "p", "button", "u", "svg", "X-a", "x-A", "font-face", "annotation-xml", "-x", "_-a", "9-a", "x", " x-a", "x-a ", "x-\xff", "x-" + strings.Repeat("a", 39)} {
		if at := heir.Born(s, ""); at != api.Plain {
			t.Errorf("Born(%q, nothing) = %d", s, at)
		}
		for _, is := range []string{"x-a", "x-b", "p", "X-a", " ", "\x00", "\xff", strings.Repeat("x", 1<<16)} {
			if at := heir.Born(s, is); at != api.Open {
				t.Errorf("Born(%q, %.200q) = %d", s, is, at)
			}
		}
	}
}

// texts are names of all kinds, and what is none.
func texts() []string {
	return []string{"x-a", "x-b", "x-c", "a-", "p", "button", "svg", "", "X-a", "Button", "font-face", " x-a", "x", "x-\xff", "x-" + strings.Repeat("a", 38), "x-" + strings.Repeat("a", 39)}
}

// P10.1: all texts against the chapter's words.
func TestBornWords(t *testing.T) {
	for _, s := range texts() {
		for _, is := range texts() {
			if at := heir.Born(s, is); at != bornByWords(s, is) {
				t.Errorf("Born(%q, %q) = %d", s, is, at)
			}
		}
	}
}

// fates are those of the clan, on sample's desk; all others have none.
func fates() map[int]int {
	return map[int]int{1: 1, 2: 0, 5: 0, 7: 0, 13: 1, 18: 0, 19: 1, 20: 0, 22: 0}
}

// P10.1: each of the clan, in the document 0 and beside it, in shadows and Frags, and alone; not those of
// another document.
func TestFate(t *testing.T) {
	f, d := sample.Clan(), sample.Desk()
	for n := range f.Nodes {
		want, has := fates()[n]
		if !has {
			want = api.None
		}
		if at := heir.Fate(f, n, d); at != want {
			t.Errorf("Fate(%d) = %d, not %d", n, at, want)
		}
		d.Busy = true
		if at := heir.Fate(f, n, d); at != want {
			t.Errorf("busy: Fate(%d) = %d, not %d", n, at, want)
		}
	}
	for n := range f.Nodes {
		if at := heir.Fate(f, n, api.Desk{}); at != api.None {
			t.Errorf("nothing is defined: Fate(%d) = %d", n, at)
		}
	}
}

// P10.1: an Is that is the name of a definition for elements of another name is none; the name counts first.
func TestFateByIs(t *testing.T) {
	d := api.Desk{Defs: []api.Def{{Name: "x-b", Local: "p", Class: 3}, {Name: "x-a", Local: "p", Class: 1}, {Name: "x-c", Local: "x-c"}}}
	for s, want := range map[string]int{"p x-a": 1, "p x-b": 0, "p x-c": -1, "p ": -1, "x-a ": -1, "x-a x-a": -1, "x-b x-a": -1, "x-c ": 2, "x-c x-a": 2, "x-c x-c": 2, "b x-a": -1, "b x-c": -1} {
		name, is, _ := strings.Cut(s, " ")
		f := sample.Forest(9, sample.ElemIs(name, is))
		if at := heir.Fate(f, 1, d); at != want {
			t.Errorf("Fate of %s!%s = %d, not %d", name, is, at, want)
		}
	}
}

// checkNothing checks that n has no fate, and nobody from it on is to be upgraded.
func checkNothing(t *testing.T, what string, f api.Forest, n int, d api.Desk) {
	t.Helper()
	if at, l := heir.Fate(f, n, d), heir.Tries(f, n, d); at != api.None || len(l) != 0 {
		t.Errorf("%s: of %d: Fate %d, Tries %v", what, n, at, l)
	}
}

// P10.1, P10.2: of a node that isn't there, of what is no forest, and of what is no desk, nothing is told.
func TestNothing(t *testing.T) {
	own := api.Desk{Defs: []api.Def{{Name: "x-e", Local: "x-e"}, {Name: "x-a", Local: "x-a", Class: 1}}}
	for what, f := range sample.Right() {
		for _, n := range sample.WrongNumbers(f) {
			checkNothing(t, what, f, n, own)
		}
	}
	for what, f := range sample.Wrong() {
		for n := -1; n <= len(f.Nodes); n++ {
			checkNothing(t, what, f, n, own)
		}
		for _, x := range own.Defs {
			if l := heir.Heirs(f, x); len(l) != 0 {
				t.Errorf("%s: Heirs(%v) = %v", what, x, l)
			}
		}
	}
	for what, d := range sample.WrongDesks() {
		for n := range sample.Clan().Nodes {
			checkNothing(t, what, sample.Clan(), n, d)
		}
	}
}

// P10.1, P10.2: of a Text, a Doc, a Frag or a Shade there is no fate, of an Elem with another's name neither.
func TestFateOfNoElem(t *testing.T) {
	f := sample.Grove()
	for n, e := range f.Nodes {
		want := api.None
		if n == 1 {
			want = 0
		}
		if at := heir.Fate(f, n, sample.Desk()); at != want {
			t.Errorf("Fate(%d), of Kind %d, = %d", n, e.Kind, at)
		}
	}
}

// P10.2: of each definition of the desk, in full order, shadows ahead of children.
func TestHeirs(t *testing.T) {
	f := sample.Clan()
	for at, want := range [][]int{{7, 2, 5}, {13, 1}} {
		x := sample.Desk().Defs[at]
		if l := heir.Heirs(f, x); !slices.Equal(l, want) {
			t.Errorf("Heirs(%v) = %v, not %v", x, l, want)
		}
		x.Class = sample.Least
		if l := heir.Heirs(f, x); !slices.Equal(l, want) {
			t.Errorf("Heirs(%v) = %v, not %v", x, l, want)
		}
	}
}

// P10.2: of definitions that stand on no desk, too, the heirs are those whom the words mean.
func TestHeirsOfAny(t *testing.T) {
	f := sample.Clan()
	for _, c := range []struct {
		name, local string
		want        []int
	}{
		{"x-c", "x-c", []int{4, 12}}, {"x-b", "x-b", []int{11}}, {"x-b", "x-a", []int{5}}, {"x-c", "x-a", []int{7}}, {"x-a", "x-c", nil},
		{"x-c", "p", []int{3}}, {"x-a", "p", []int{15}}, {"x-b", "button", []int{14}}, {"x-a", "button", []int{10}}, {"x-d", "button", nil},
		{"button", "button", []int{13, 1, 10, 8, 14}}, {"p", "p", []int{3, 15}}, {"div", "div", []int{9}},
		{"", "button", []int{8}}, {"", "x-a", []int{2}}, {"", "p", nil}, {"", "", nil}, {"x-a", "", nil}, {"X-a", "X-a", nil}, {"x-A", "x-a", nil}, {"x-a", "X-a", nil},
	} {
		x := api.Def{Name: c.name, Local: c.local}
		if l := heir.Heirs(f, x); !slices.Equal(l, c.want) || !slices.Equal(l, heirsByWords(f, x)) {
			t.Errorf("Heirs(%v) = %v, not %v", x, l, c.want)
		}
	}
}

// P10.2: from each node of the clan, its document or not, connected or not, an element or not.
func TestTries(t *testing.T) {
	f, d := sample.Clan(), sample.Desk()
	for n, want := range map[int][]int{
		0: {7, 13, 2, 5, 1}, 9: {7, 13, 2, 5, 1}, 7: {7, 13, 2, 5}, 16: {13, 2}, 13: {13, 2}, 2: {2}, 5: {5}, 1: {1}, 17: {18, 19}, 18: {18}, 19: {19}, 20: {20}, 21: {22}, 23: {22}, 22: {22},
	} {
		var l []api.Due
		for _, at := range want {
			l = append(l, api.Due{Node: at, Todo: api.Todo{Kind: api.Upgrade, Def: fates()[at]}})
		}
		if got := heir.Tries(f, n, d); !slices.Equal(got, l) {
			t.Errorf("Tries(%d) = %v, not %v", n, got, l)
		}
	}
	for _, n := range []int{3, 4, 6, 8, 10, 11, 12, 14, 15, 24, 25, 26, 27} {
		if got := heir.Tries(f, n, d); len(got) != 0 {
			t.Errorf("Tries(%d) = %v", n, got)
		}
	}
}

// The chapter's example.
func TestExample(t *testing.T) {
	d := api.Desk{Defs: []api.Def{{Name: "x-a", Local: "x-a"}, {Name: "x-b", Local: "button", Class: 1}}}
	f := sample.Forest(9, sample.Elem("x-a"), sample.ElemIs("button", "x-b"), sample.Elem("button"), sample.Elem("x-b"))
	for n, want := range []int{-1, 0, 1, -1, -1} {
		if at := heir.Fate(f, n, d); at != want {
			t.Errorf("Fate(%d) = %d, not %d", n, at, want)
		}
	}
	if l := heir.Heirs(f, d.Defs[0]); len(l) != 0 {
		t.Errorf("who isn't connected is an heir: %v", l)
	}
}
