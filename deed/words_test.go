package deed_test

import (
	"slices"
	"strings"

	"instar/api"
	"instar/desk"
	"instar/duty"
	"instar/heir"
	"instar/move"
	"instar/name"
	"instar/op"
	"instar/sample"
	"instar/shade"
	"instar/twin"
	"instar/world"
)

// What the chapter says, in its words one by one and without haste, for the tests to hold the answers against.

// needless are the Kinds that the chapter tells of, in its order.
func needless() []int {
	return []int{
		api.DraftOp, api.TextOp, api.FragOp, api.ShadeOp, api.CopyOp, api.JoinOp, api.PutOp, api.HandPutOp, api.OutOp, api.HandOutOp, api.SwapOp,
		api.SetOp, api.HandSetOp, api.UnsetOp, api.ToggleOp, api.TakeOp, api.EmptyOp, api.WaitOp, api.UpgradeOp, api.ResetOp, api.RestoreOp,
	}
}

// done is what a call answers.
type done struct {
	w    api.World
	node int
	err  api.Errno
}

// hasNodes tells whether each node that o names is one of so many, by its number.
func hasNodes(o api.Op, many int) bool {
	has := true
	for _, field := range sample.Fields(o.Kind) {
		if !strings.HasPrefix(field, "node") {
			continue
		}
		n := *sample.NumberAt(&o, field)
		has = has && (n >= 0 && n < many || n == -1 && strings.HasPrefix(field, "node or none"))
	}
	return has
}

func doByWords(w api.World, o api.Op) done {
	switch {
	case !world.Right(w) || !op.Right(o) || !hasNodes(o, len(w.Forest.Nodes)):
		return done{w, -1, 1}
	case !slices.Contains(needless(), o.Kind):
		return done{w, -1, 7}
	case o.Kind == api.WaitOp:
		return waitByWords(w, o.S)
	case o.Kind == api.UpgradeOp || o.Kind == api.ResetOp || o.Kind == api.RestoreOp:
		return dueByWords(w, o)
	}
	f, node, notes, err := stepByWords(w.Forest, o)
	if err != 0 {
		return done{w, -1, err}
	}
	v, err := world.Tell(w, f, notes)
	for n := len(w.Forest.Nodes); n < len(f.Nodes); n++ {
		def := heir.Fate(v.Forest, n, v.Desk)
		if (o.Kind == api.DraftOp || o.Kind == api.CopyOp) && v.Forest.Nodes[n].Kind == 1 && def != -1 {
			v, _ = world.Enlist(v, []api.Due{{Node: n, Todo: api.Todo{Kind: api.Upgrade, Def: def}}})
		}
	}
	return done{v, node, err}
}

func waitByWords(w api.World, s string) done {
	d, ticket, place, err := desk.Await(w.Desk, s)
	if err != 0 {
		return done{w, -1, err}
	}
	v := sample.CopyWorld(w)
	v.Desk = d
	if place != -1 {
		v.Tasks = append(v.Tasks, api.Task{Kind: api.Keep, Ticket: ticket, Def: place})
	}
	return done{v, ticket, 0}
}

// dueByWords is of the operations that only enlist what is due.
func dueByWords(w api.World, o api.Op) done {
	var due []api.Due
	node := w.Forest.Nodes[o.A]
	switch o.Kind {
	case api.UpgradeOp:
		for _, x := range heir.Tries(w.Forest, o.A, w.Desk) {
			if w.States[x.Node].Phase == 1 {
				due = append(due, x)
			}
		}
	case api.ResetOp:
		if node.Kind != 1 || node.Name != "form" {
			return done{w, -1, 5}
		}
		due = duty.Reset(w.Forest, w.States, w.Desk, w.Classes, o.A)
	case api.RestoreOp:
		if node.Kind != 1 {
			return done{w, -1, 5}
		}
		due = duty.Restore(w.Forest, w.States, w.Desk, w.Classes, o.A, o.S)
	}
	v, err := world.Enlist(w, due)
	return done{v, -1, err}
}

// stepByWords is of the operations behind which the world goes on to a forest.
func stepByWords(f api.Forest, o api.Op) (g api.Forest, node int, notes []api.Note, err api.Errno) {
	node = -1
	switch o.Kind {
	case api.DraftOp:
		g, node, err = makeByWords(f, api.Node{Kind: 1, Name: name.Small(o.S), Is: o.T, Doc: o.A}, name.Right(o.S) && (o.T == "" || name.Custom(o.T)))
	case api.TextOp:
		g, node, err = makeByWords(f, api.Node{Kind: 2, Data: o.S, Doc: o.A}, true)
	case api.FragOp:
		g, node, err = makeByWords(f, api.Node{Kind: 3, Doc: o.A}, true)
	case api.ShadeOp:
		g, node, err = shade.Attach(f, o.A)
	case api.CopyOp:
		g, node, err = twin.Copy(f, o.A, o.C, o.B != 0)
	case api.JoinOp:
		g, node, notes, err = twin.Join(f, o.A)
	case api.PutOp, api.HandPutOp:
		g, notes, err = move.Insert(f, o.A, o.B, o.C)
	case api.OutOp, api.HandOutOp:
		g, notes, err = move.Remove(f, o.A)
	case api.SwapOp:
		g, notes, err = move.Replace(f, o.A, o.B, o.C)
	case api.SetOp, api.HandSetOp:
		g, notes, err = move.Set(f, o.A, o.S, o.T)
	case api.UnsetOp:
		g, notes, err = move.Unset(f, o.A, o.S)
	case api.ToggleOp:
		g, notes, err = move.Toggle(f, o.A, o.S, o.B)
	case api.TakeOp:
		g, notes, err = twin.Take(f, o.A, o.B)
	case api.EmptyOp:
		g, notes, err = twin.Empty(f, o.A)
	}
	return g, node, notes, err
}

// makeByWords answers f with n more, which is named as it may be, or isn't.
func makeByWords(f api.Forest, n api.Node, named bool) (api.Forest, int, api.Errno) {
	switch {
	case f.Nodes[n.Doc].Kind != 0:
		return f, -1, 5
	case !named:
		return f, -1, 4
	case len(f.Nodes) == f.Most:
		return f, -1, 8
	}
	n.Parent, n.Host, n.Under = -1, -1, -1
	g := sample.Copy(f)
	g.Nodes = append(g.Nodes, n)
	return g, len(f.Nodes), 0
}
