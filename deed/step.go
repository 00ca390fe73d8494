package deed

import (
	"instar/api"
	"instar/forest"
	"instar/move"
	"instar/name"
	"instar/shade"
	"instar/twin"
)

// step answers f behind the operation o, which changes forests, the node that o makes, and what is told of it.
func step(f api.Forest, o api.Op) (api.Forest, int, []api.Note, api.Errno) {
	switch o.Kind {
	case api.DraftOp:
		return making(draft(f, o.A, o.S, o.T))
	case api.TextOp:
		return making(plant(f, api.Node{Kind: api.Text, Data: o.S, Doc: o.A}))
	case api.FragOp:
		return making(plant(f, api.Node{Kind: api.Frag, Doc: o.A}))
	case api.ShadeOp:
		return making(shade.Attach(f, o.A))
	case api.CopyOp:
		return making(twin.Copy(f, o.A, o.C, o.B != 0))
	case api.JoinOp:
		return twin.Join(f, o.A)
	case api.PutOp, api.HandPutOp:
		return changing(move.Insert(f, o.A, o.B, o.C))
	case api.OutOp, api.HandOutOp:
		return changing(move.Remove(f, o.A))
	case api.SwapOp:
		return changing(move.Replace(f, o.A, o.B, o.C))
	case api.SetOp, api.HandSetOp:
		return changing(move.Set(f, o.A, o.S, o.T))
	case api.UnsetOp:
		return changing(move.Unset(f, o.A, o.S))
	case api.ToggleOp:
		return changing(move.Toggle(f, o.A, o.S, o.B))
	case api.TakeOp:
		return changing(twin.Take(f, o.A, o.B))
	case api.EmptyOp:
		return changing(twin.Empty(f, o.A))
	}
	// All others need a program.
	return f, api.None, nil, api.ErrState
}

// making answers what a step comes to that makes a node, and tells nothing.
func making(f api.Forest, n int, err api.Errno) (api.Forest, int, []api.Note, api.Errno) {
	return f, n, nil, err
}

// changing answers what a step comes to that makes no node.
func changing(f api.Forest, notes []api.Note, err api.Errno) (api.Forest, int, []api.Note, api.Errno) {
	return f, api.None, notes, err
}

// draft answers f with an element more, of the name s, and of that Is.
func draft(f api.Forest, doc int, s, is string) (api.Forest, int, api.Errno) {
	small, err := name.Fit(s)
	// That doc is none comes ahead of a wrong name: then there is nothing to ask of the name.
	if isDoc(f, doc) && (err != api.OK || is != "" && !name.Custom(is)) {
		return f, api.None, api.ErrName
	}
	return plant(f, api.Node{Kind: api.Elem, Name: small, Is: is, Doc: doc})
}

// plant answers f with n more, of the document that n names.
func plant(f api.Forest, n api.Node) (api.Forest, int, api.Errno) {
	if !isDoc(f, n.Doc) {
		return f, api.None, api.ErrTree
	}
	return forest.Make(f, n)
}

func isDoc(f api.Forest, n int) bool { return f.Nodes[n].Kind == api.Doc }
