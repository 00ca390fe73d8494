package world

import (
	"slices"

	"instar/api"
	"instar/line"
	"instar/name"
	"instar/state"
)

// Allowed tells whether a class may be.
func Allowed(c api.Class) bool {
	if len(c.Watch) > api.MaxWatch || len(c.Hooks) > api.MaxHooks || !mayPlay(c.Peek) || !mayPlay(c.Make) {
		return false
	}
	return every(c.Watch, isSmall) && every(c.Hooks, mayHook)
}

// Right tells whether w is a world as it may be.
func Right(w api.World) bool {
	if len(w.Classes) > api.MaxClasses || !every(w.Classes, Allowed) || !state.Right(w.Forest, w.States, w.Desk) {
		return false
	}
	if !line.Right(w.Line) || len(w.Line.Todos) != len(w.Forest.Nodes) {
		return false
	}
	return every(w.Desk.Defs, func(x api.Def) bool { return x.Class < len(w.Classes) }) && rightNodes(w) &&
		every(w.Tasks, func(t api.Task) bool { return mayTask(w, t) }) &&
		every(w.Builds, func(b api.Build) bool { return mayBuild(w, b) })
}

// every tells whether each of l may be.
func every[T any](l []T, may func(x T) bool) bool {
	return !slices.ContainsFunc(l, func(x T) bool { return !may(x) })
}

// isSmall tells whether s is a name in its small form.
func isSmall(s string) bool {
	small, err := name.Fit(s)
	return err == api.OK && small == s
}

func mayHook(h api.Hook) bool {
	return api.Came <= h.Kind && h.Kind <= api.Restored && mayPlay(h.Do)
}

func mayPlay(program []api.Op) bool { return len(program) <= api.MaxOps }

// rightNodes tells whether each node's state, and what is to be done to it, may be; there are as many as nodes.
func rightNodes(w api.World) bool {
	for n := range w.Forest.Nodes {
		if !mayState(w, n) || !every(w.Line.Todos[n], func(t api.Todo) bool { return mayTodo(w, t) }) {
			return false
		}
	}
	return true
}

// mayState tells whether n's state may be.
func mayState(w api.World, n int) bool {
	s := w.States[n]
	if w.Forest.Nodes[n].Kind != api.Elem {
		return s == api.State{Phase: api.Plain, Def: api.None, Owner: api.None}
	}
	needsDef := s.Phase == api.Half || s.Phase == api.Custom
	return api.Plain <= s.Phase && s.Phase <= api.Failed &&
		(isDef(w, s.Def) || s.Def == api.None && !needsDef) &&
		(isNode(w, s.Owner) || s.Owner == api.None)
}

func mayTodo(w api.World, t api.Todo) bool {
	return api.Came <= t.Kind && t.Kind <= api.Upgrade && (t.Kind != api.Upgrade || isDef(w, t.Def))
}

func mayDue(w api.World, x api.Due) bool { return isNode(w, x.Node) && mayTodo(w, x.Todo) }

func mayTask(w api.World, t api.Task) bool {
	switch t.Kind {
	case api.Drain:
		return t.Ticket == 0 && t.Def == 0
	case api.Keep:
		return t.Ticket >= 0 && isDef(w, t.Def)
	}
	return false
}

func mayBuild(w api.World, b api.Build) bool {
	return isDef(w, b.Def) && (b.Node == api.Taken || isNode(w, b.Node) && w.Forest.Nodes[b.Node].Kind == api.Elem)
}

// isDef tells whether at is a place of the definitions.
func isDef(w api.World, at int) bool { return 0 <= at && at < len(w.Desk.Defs) }

func isNode(w api.World, n int) bool { return 0 <= n && n < len(w.Forest.Nodes) }

// follows tells whether g may come behind f: it has f's nodes, each of the Kind that it was, and as many may be.
func follows(f, g api.Forest) bool {
	if f.Most != g.Most || len(g.Nodes) < len(f.Nodes) {
		return false
	}
	for n, was := range f.Nodes {
		if g.Nodes[n].Kind != was.Kind {
			return false
		}
	}
	return true
}
