package heir_test

import (
	"instar/api"
	"instar/desk"
	"instar/forest"
	"instar/name"
)

// What the chapter says, in its words one by one, for the tests to hold the answers against.

func bornByWords(s, is string) int {
	if name.Kind(s) == 1 {
		return api.Open
	}
	if len(is) > 0 {
		return api.Open
	}
	return api.Plain
}

// defByWords is desk.Find of a desk that is right: the definition of the name itself comes first.
func defByWords(d api.Desk, local, is string) int {
	for at, x := range d.Defs {
		if x.Name == local && x.Local == local {
			return at
		}
	}
	for at, x := range d.Defs {
		if x.Name == is && x.Local == local {
			return at
		}
	}
	return -1
}

// asked is a forest and a desk, and whether they are right.
type asked struct {
	f      api.Forest
	d      api.Desk
	ff, dd bool
}

func ask(f api.Forest, d api.Desk) asked { return asked{f, d, forest.Right(f), desk.Right(d)} }

func (a asked) fateByWords(n int) int {
	if !a.ff || !a.dd || n < 0 || n >= len(a.f.Nodes) {
		return -1
	}
	if a.f.Nodes[n].Kind != api.Elem || a.f.Nodes[n].Doc != 0 {
		return -1
	}
	return defByWords(a.d, a.f.Nodes[n].Name, a.f.Nodes[n].Is)
}

func (a asked) triesByWords(n int) []api.Due {
	if !a.ff || !a.dd || n < 0 || n >= len(a.f.Nodes) {
		return nil
	}
	var l []api.Due
	for _, at := range fullByWords(a.f, n) {
		if def := a.fateByWords(at); def != -1 {
			l = append(l, api.Due{Node: at, Todo: api.Todo{Kind: 9, Def: def}})
		}
	}
	return l
}

func fullByWords(f api.Forest, n int) []int {
	order := []int{n}
	if f.Nodes[n].Under != -1 {
		order = append(order, fullByWords(f, f.Nodes[n].Under)...)
	}
	for _, kid := range f.Nodes[n].Kids {
		order = append(order, fullByWords(f, kid)...)
	}
	return order
}

func heirsByWords(f api.Forest, x api.Def) []int {
	if !forest.Right(f) {
		return nil
	}
	var l []int
	for _, n := range fullByWords(f, 0) {
		e := f.Nodes[n]
		if e.Kind != api.Elem || e.Name != x.Local {
			continue
		}
		if e.Is == x.Name || e.Name == x.Name {
			l = append(l, n)
		}
	}
	return l
}
