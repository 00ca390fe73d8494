package heir_test

import (
	"slices"
	"strconv"
	"testing"

	"instar/api"
	"instar/heir"
	"instar/sample"
	"instar/shade"
)

// forests are right ones and wrong ones, and masked tangles.
func forests() map[string]api.Forest {
	all := sample.Right()
	for what, f := range sample.Wrong() {
		all[what] = f
	}
	for seed := range 60 {
		all["masked "+strconv.Itoa(seed)] = sample.Masked(seed)
	}
	all["clan"] = sample.Clan()
	return all
}

// desks are right ones and wrong ones, and offices, all with few who wait.
func desks() map[string]api.Desk {
	all := sample.RightDesks()
	for what, d := range sample.WrongDesks() {
		all[what] = d
	}
	for seed := range 10 {
		all["office "+strconv.Itoa(seed)] = sample.Office(seed)
	}
	for what, d := range all {
		d.Waits = d.Waits[:min(len(d.Waits), 5)]
		all[what] = d
	}
	all["x-e"] = api.Desk{Defs: []api.Def{{Name: "x-z", Local: "p"}, {Name: "x-e", Local: "x-e", Class: 1}}}
	return all
}

// checkWords holds what is told of f and d against the chapter's words, and answers how many have a fate.
func checkWords(t *testing.T, what string, f api.Forest, d api.Desk) int {
	t.Helper()
	a, found := ask(f, d), 0
	for _, n := range sample.Some(f) {
		want := a.fateByWords(n)
		if at := heir.Fate(f, n, d); at != want {
			t.Errorf("%s: Fate(%d) = %d, not %d", what, n, at, want)
		}
		if want != api.None {
			found++
		}
		if l := heir.Tries(f, n, d); !slices.Equal(l, a.triesByWords(n)) {
			t.Errorf("%s: Tries(%d) = %v", what, n, l)
		}
	}
	for _, x := range d.Defs {
		if l := heir.Heirs(f, x); !slices.Equal(l, heirsByWords(f, x)) {
			t.Errorf("%s: Heirs(%v) = %v", what, x, l)
		}
	}
	return found
}

// P10.1, P10.2: all kinds of forests and desks, against the chapter's words; all stay as they are.
func TestWords(t *testing.T) {
	found := 0
	for whose, d := range desks() {
		if _, careful := sample.AskDesk(d, func(d api.Desk) api.Desk {
			for what, f := range forests() {
				if !sample.Untouched(f, func(f api.Forest) { found += checkWords(t, what+", "+whose, f, d) }) {
					t.Errorf("%s, %s: changed the forest that was handed in", what, whose)
				}
			}
			return api.Desk{}
		}); !careful {
			t.Errorf("%s: changed the desk that was handed in", whose)
		}
	}
	if found < 1000 {
		t.Errorf("only %d have a fate", found)
	}
}

// P10.3: the heirs of each definition are just those whose fate it is and who are connected; so they are who
// is tried from the document on.
func TestHeirsHaveTheFate(t *testing.T) {
	found := 0
	for seed := range 3000 {
		f, d := sample.Masked(seed), sample.Office(seed)
		tried := make([][]int, len(d.Defs))
		for _, due := range heir.Tries(f, 0, d) {
			tried[due.Todo.Def] = append(tried[due.Todo.Def], due.Node)
		}
		for at, x := range d.Defs {
			heirs := heir.Heirs(f, x)
			if !slices.Equal(heirs, tried[at]) {
				t.Errorf("%d: the heirs of %v are %v, but tried are %v", seed, x, heirs, tried[at])
			}
			for n := range f.Nodes {
				fated := heir.Fate(f, n, d) == at && shade.Connected(f, n)
				if slices.Contains(heirs, n) != fated {
					t.Errorf("%d: %d is an heir of %v: %v", seed, n, x, !fated)
				}
				if fated {
					found++
				}
			}
		}
	}
	if found < 500 {
		t.Errorf("only %d were heirs", found)
	}
}

// P10.2: an answer is the caller's own: who changes it changes no other one.
func TestOwn(t *testing.T) {
	f, d := sample.Clan(), sample.Desk()
	heirs, tries := heir.Heirs(f, d.Defs[0]), heir.Tries(f, 0, d)
	for i := range heirs[:cap(heirs)] {
		heirs[:cap(heirs)][i] = 999
	}
	for i := range tries[:cap(tries)] {
		tries[:cap(tries)][i] = api.Due{Node: 999}
	}
	if !slices.Equal(heir.Heirs(f, d.Defs[0]), heirsByWords(f, d.Defs[0])) || !slices.Equal(heir.Tries(f, 0, d), ask(f, d).triesByWords(0)) {
		t.Error("an answer shares memory with another one")
	}
	if !sample.Same(f, sample.Clan()) || !sample.SameDesk(d, sample.Desk()) {
		t.Error("an answer shares memory with what was handed in")
	}
}

// P10.1, P10.2: the greatest forests, on the greatest desk: who waits, however many, changes nothing.
func TestGreatest(t *testing.T) {
	d := sample.Manned()
	d.Defs[7] = api.Def{Name: "x-e", Local: "x-e", Class: d.Defs[7].Class}
	wide := sample.Wide(api.MaxNodes)
	sample.Hang(wide, 0, 1)
	for what, f := range map[string]api.Forest{"deepest": sample.Chain(api.MaxNodes, false), "deepest shadows": sample.Chain(api.MaxNodes, true), "widest": wide} {
		heirs := heir.Heirs(f, d.Defs[7])
		l := heir.Tries(f, 0, d)
		if len(l) < 190 || len(l) != len(heirs) || heir.Fate(f, heirs[0], d) != 7 {
			t.Errorf("%s: %d tries, %d heirs", what, len(l), len(heirs))
			continue
		}
		for i, due := range l {
			if want := (api.Due{Node: heirs[i], Todo: api.Todo{Kind: api.Upgrade, Def: 7}}); due != want {
				t.Errorf("%s: %v, not %v", what, due, want)
			}
		}
	}
	d.Waits[99999].Ticket = 99998
	if l := heir.Tries(sample.Chain(9, false), 0, d); len(l) != 0 {
		t.Errorf("the desk is wrong in its last wait, and tried are %v", l)
	}
}
