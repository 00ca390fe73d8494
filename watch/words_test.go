package watch_test

import (
	"instar/api"
	"instar/heir"
	"instar/sample"
	"instar/shade"
)

// What the chapter says, in its words one by one, for the tests to hold the answers against.

func hearsByWords(c api.Class, kind int) bool {
	hears := false
	for _, h := range c.Hooks {
		hears = hears || h.Kind == kind
	}
	return hears
}

func programByWords(c api.Class, kind int) []api.Op {
	var do []api.Op
	for i := len(c.Hooks) - 1; i >= 0; i-- {
		if c.Hooks[i].Kind == kind {
			do = c.Hooks[i].Do
		}
	}
	return do
}

func watchesByWords(c api.Class, s string) bool {
	for _, a := range c.Watch {
		if a == s {
			return hearsByWords(c, 4)
		}
	}
	return false
}

// classByWords tries all places: those that there are, are the only ones that may be meant.
func classByWords(s api.State, d api.Desk, classes []api.Class) (api.Class, bool) {
	for place, x := range d.Defs {
		for number, c := range classes {
			if s.Def == place && x.Class == number {
				return c, true
			}
		}
	}
	return api.Class{}, false
}

// asked is all that is asked with, and whether it is right.
type asked struct {
	sample.Scene
	right bool
}

func ask(s sample.Scene) asked { return asked{s, s.Right()} }

func (a asked) elemByWords(n int) bool {
	return a.right && n >= 0 && n < len(a.Forest.Nodes) && a.Forest.Nodes[n].Kind == api.Elem
}

func (a asked) noteByWords(note api.Note) (api.Due, bool) {
	if !a.elemByWords(note.Node) {
		return api.Due{}, false
	}
	s := a.States[note.Node]
	if s.Phase == 1 && note.Kind == 1 {
		fate := heir.Fate(a.Forest, note.Node, a.Desk)
		return api.Due{Node: note.Node, Todo: api.Todo{Kind: 9, Def: fate}}, fate != -1
	}
	c, has := classByWords(s, a.Desk, a.Classes)
	if s.Phase != 3 || !has {
		return api.Due{}, false
	}
	hears := note.Kind >= 1 && note.Kind <= 4 && hearsByWords(c, note.Kind)
	if note.Kind == 4 {
		hears = watchesByWords(c, note.Name)
	}
	todo := api.Todo{Kind: note.Kind}
	todo.Name, todo.Had, todo.Has, todo.Old, todo.New = note.Name, note.Had, note.Has, note.Old, note.New
	todo.From, todo.To = note.From, note.To
	return api.Due{Node: note.Node, Todo: todo}, hears
}

func (a asked) dueByWords(notes []api.Note) []api.Due {
	var l []api.Due
	for _, note := range notes {
		if due, asks := a.noteByWords(note); asks {
			l = append(l, due)
		}
	}
	return l
}

func (a asked) firstByWords(n int) []api.Due {
	if !a.elemByWords(n) {
		return nil
	}
	c, has := classByWords(a.States[n], a.Desk, a.Classes)
	if !has {
		return nil
	}
	var l []api.Due
	for _, x := range a.Forest.Nodes[n].Attrs {
		if watchesByWords(c, x.Name) {
			todo := api.Todo{Kind: 4, Has: true}
			todo.Name, todo.New = x.Name, x.Value
			l = append(l, api.Due{Node: n, Todo: todo})
		}
	}
	if shade.Connected(a.Forest, n) && hearsByWords(c, 1) {
		l = append(l, api.Due{Node: n, Todo: api.Todo{Kind: 1}})
	}
	return l
}
