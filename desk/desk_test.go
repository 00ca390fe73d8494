package desk_test

import (
	"strings"
	"testing"

	"instar/api"
	"instar/desk"
	"instar/sample"
)

// desks answers right desks and wrong ones.
func desks() map[string]api.Desk {
	all := sample.RightDesks()
	for what, d := range sample.WrongDesks() {
		all[what] = d
	}
	return all
}

// texts are names of all kinds, and what is none.
func texts() []string {
	return []string{
		"x-a", "x-b", "x-c", "x-d", "x-e", "w-1", "d-5", "a-", "p", "button", "svg", "", "X-a", "x-A", "Button", "P", "font-face",
		" x-a", "x-a ", "x", "-", "9-a", "_-a", "x-\u00e4", "x-\xff", "x-\x00", "x-" + strings.Repeat("a", 38), "x-" + strings.Repeat("a", 39), strings.Repeat("x-", 1<<16),
	}
}

// numbers are those about the edges, and far from them.
func numbers() []int {
	return []int{0, 1, 2, 3, 5, 11, 12, 13, 40, 99999, 100000, 100001, sample.Greatest, -1, -2, -12, sample.Least}
}

// P9.1: which desks are right, at the edges.
func TestRight(t *testing.T) {
	check := func(what string, d api.Desk, right bool) {
		t.Helper()
		if _, careful := sample.AskDesk(d, func(d api.Desk) api.Desk {
			if desk.Right(d) != right {
				t.Errorf("%s: Right = %v", what, !right)
			}
			return api.Desk{}
		}); !careful {
			t.Errorf("%s: changed what was handed in", what)
		}
	}
	for what, d := range sample.RightDesks() {
		check(what, d, true)
		d.Busy = !d.Busy
		check(what+", otherwise busy", d, true)
	}
	for what, d := range sample.WrongDesks() {
		check(what, d, false)
		d.Busy = true
		check(what+", busy", d, false)
	}
	for _, n := range numbers() {
		check("Next", api.Desk{Next: n}, 0 <= n && n <= 100000)
		check("class", api.Desk{Defs: []api.Def{{Name: "x-a", Local: "x-a", Class: n}}}, 0 <= n && n <= 11)
		check("ticket", api.Desk{Next: 13, Waits: []api.Wait{{Name: "x-a", Ticket: n}}}, 0 <= n && n <= 12)
		check("two tickets", api.Desk{Next: 13, Waits: []api.Wait{{Name: "x-a", Ticket: 3}, {Name: "x-b", Ticket: n}}}, 3 < n && n <= 12)
	}
}

// P9.1: a name or a class that stands twice makes a desk wrong, wherever the two stand; so does a wait for
// what is defined.
func TestTwiceAnywhere(t *testing.T) {
	all := sample.Manned()
	all.Waits = all.Waits[:12]
	for i := range 12 {
		for j := range 12 {
			d, e, f, g := sample.CopyDesk(all), sample.CopyDesk(all), sample.CopyDesk(all), sample.CopyDesk(all)
			d.Defs[i].Name, d.Defs[i].Local = d.Defs[j].Name, d.Defs[j].Local
			e.Defs[i].Class = e.Defs[j].Class
			f.Waits[i].Name = f.Defs[j].Name
			g.Waits[i].Name = g.Waits[j].Name
			if desk.Right(d) != (i == j) || desk.Right(e) != (i == j) || desk.Right(f) || !desk.Right(g) {
				t.Errorf("%d as %d: %v, %v, %v, %v", i, j, desk.Right(d), desk.Right(e), desk.Right(f), desk.Right(g))
			}
		}
	}
}

// P9.1: each name as a definition's, as what it is for, and as one that is waited for.
func TestRightNames(t *testing.T) {
	for _, s := range texts() {
		for _, d := range []api.Desk{
			{Defs: []api.Def{{Name: s, Local: s}}}, {Defs: []api.Def{{Name: s, Local: "p"}}}, {Defs: []api.Def{{Name: "x-z", Local: s}}},
			{Waits: []api.Wait{{Name: s}}, Next: 1},
		} {
			if desk.Right(d) != rightByWords(d) {
				t.Errorf("%.200q: Right = %v", s, desk.Right(d))
			}
		}
	}
	for _, s := range strings.Fields("a b button div fieldset form i input label legend li option output p select span template textarea ul") {
		if d := (api.Desk{Defs: []api.Def{{Name: "x-z", Local: s}}}); !desk.Right(d) || desk.Find(d, s, "x-z") != 0 {
			t.Errorf("nothing may be for %s", s)
		}
	}
}

// P9.1: what is for an element, by its name and its Is; what has a name, or a class.
func TestFind(t *testing.T) {
	d := sample.Desk()
	for _, c := range []struct {
		local, is string
		want      int
	}{
		{"x-a", "", 0}, {"x-a", "x-a", 0}, {"x-a", "x-c", 0}, {"x-a", "x-b", 0}, {"x-a", "!", 0},
		{"button", "x-c", 1}, {"button", "", -1}, {"button", "x-a", -1}, {"button", "button", -1}, {"button", "X-c", -1},
		{"x-c", "", -1}, {"x-c", "x-c", -1}, {"x-c", "button", -1}, {"x-b", "", -1}, {"x-b", "x-a", -1}, {"x-b", "x-c", -1},
		{"p", "x-a", -1}, {"p", "x-c", -1}, {"", "x-a", -1}, {"", "x-c", -1}, {"", "", -1}, {"X-a", "", -1}, {"Button", "x-c", -1},
	} {
		if at := desk.Find(d, c.local, c.is); at != c.want {
			t.Errorf("Find(%q, %q) = %d, not %d", c.local, c.is, at, c.want)
		}
	}
	for s, want := range map[string]int{"x-a": 0, "x-c": 1, "x-b": -1, "button": -1, "": -1, "X-a": -1} {
		if at := desk.Named(d, s); at != want {
			t.Errorf("Named(%q) = %d, not %d", s, at, want)
		}
	}
	for class, want := range map[int]int{2: 0, 0: 1, 1: -1, 3: -1, -1: -1, 12: -1} {
		if at := desk.Classed(d, class); at != want {
			t.Errorf("Classed(%d) = %d, not %d", class, at, want)
		}
	}
}

// P9.1: two definitions may be for elements of one name: the Is tells which.
func TestFindByIs(t *testing.T) {
	d := api.Desk{Defs: []api.Def{{Name: "x-a", Local: "p", Class: 3}, {Name: "x-b", Local: "p", Class: 1}, {Name: "x-c", Local: "x-c"}}}
	for is, want := range map[string]int{"x-a": 0, "x-b": 1, "x-c": -1, "": -1, "p": -1} {
		if at := desk.Find(d, "p", is); at != want {
			t.Errorf("Find(p, %q) = %d, not %d", is, at, want)
		}
		if at := desk.Find(d, "x-c", is); at != 2 {
			t.Errorf("Find(x-c, %q) = %d", is, at)
		}
	}
}

// P9.1: all desks and texts, the greatest desk and wrong ones among them: of a wrong one nothing is told.
func TestFindWords(t *testing.T) {
	for what, d := range desks() {
		few := d
		few.Waits = few.Waits[:min(len(few.Waits), 20)]
		before := sample.CopyDesk(few)
		for _, s := range texts() {
			if at := desk.Named(few, s); at != namedByWords(few, s) {
				t.Errorf("%s: Named(%.200q) = %d", what, s, at)
			}
			for _, is := range texts() {
				if at := desk.Find(few, s, is); at != findByWords(few, s, is) {
					t.Errorf("%s: Find(%.200q, %.200q) = %d", what, s, is, at)
				}
			}
		}
		for _, n := range numbers() {
			if at := desk.Classed(few, n); at != classedByWords(few, n) {
				t.Errorf("%s: Classed(%d) = %d", what, n, at)
			}
		}
		if !sample.SameDesk(few, before) {
			t.Errorf("%s: changed what was handed in", what)
		}
	}
	d := sample.Manned()
	for class := range 12 {
		if s := d.Defs[11-class].Name; desk.Classed(d, class) != 11-class || desk.Named(d, s) != 11-class || desk.Find(d, s, "") != 11-class {
			t.Errorf("the class %d isn't found", class)
		}
	}
}
