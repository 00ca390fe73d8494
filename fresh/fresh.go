// Package fresh answers copies that share no memory with what they are made of, for the layers whose
// answers are to be new memory.
package fresh

import (
	"slices"

	"instar/api"
)

// Forest answers f in memory of its own, so that whoever gets it may change it.
func Forest(f api.Forest) api.Forest {
	nodes := slices.Clone(f.Nodes)
	for i, n := range nodes {
		nodes[i].Attrs, nodes[i].Kids = slices.Clone(n.Attrs), slices.Clone(n.Kids)
	}
	return api.Forest{Nodes: nodes, Most: f.Most}
}

// Desk answers d in memory of its own.
func Desk(d api.Desk) api.Desk {
	d.Defs, d.Waits = slices.Clone(d.Defs), slices.Clone(d.Waits)
	return d
}

// Line answers l in memory of its own.
func Line(l api.Line) api.Line {
	return api.Line{Todos: lists(l.Todos), Stack: lists(l.Stack), Back: slices.Clone(l.Back), Busy: l.Busy}
}

// World answers w in memory of its own.
func World(w api.World) api.World {
	return api.World{
		Forest: Forest(w.Forest), States: slices.Clone(w.States), Desk: Desk(w.Desk), Line: Line(w.Line),
		Tasks: slices.Clone(w.Tasks), Builds: slices.Clone(w.Builds), Classes: Classes(w.Classes),
	}
}

// Classes answers these classes in memory of their own.
func Classes(l []api.Class) []api.Class {
	l = slices.Clone(l)
	for i, c := range l {
		l[i] = Class(c)
	}
	return l
}

// Class answers c in memory of its own.
func Class(c api.Class) api.Class {
	hooks := slices.Clone(c.Hooks)
	for i, h := range hooks {
		hooks[i].Do = slices.Clone(h.Do)
	}
	return api.Class{
		Form: c.Form, Watch: slices.Clone(c.Watch), Peek: slices.Clone(c.Peek), Make: slices.Clone(c.Make), Hooks: hooks,
	}
}

// Alone answers n as a node of the number at, with nobody about it; a Doc is its own.
func Alone(n api.Node, at int) api.Node {
	doc := n.Doc
	if n.Kind == api.Doc {
		doc = at
	}
	return api.Node{
		Kind: n.Kind, Name: n.Name, Is: n.Is, Data: n.Data, Attrs: slices.Clone(n.Attrs),
		Parent: api.None, Host: api.None, Under: api.None, Doc: doc,
	}
}

// lists answers these lists, each in memory of its own.
func lists[T any](all [][]T) [][]T {
	all = slices.Clone(all)
	for i, l := range all {
		all[i] = slices.Clone(l)
	}
	return all
}
