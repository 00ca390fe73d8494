package world_test

import (
	"slices"

	"instar/api"
	"instar/desk"
	"instar/duty"
	"instar/forest"
	"instar/heir"
	"instar/line"
	"instar/name"
	"instar/sample"
	"instar/watch"
)

// What the chapter says, in its words one by one, for the tests to hold the answers against. Who has a small letter
// asks nothing of what was asked ahead.

func allowedByWords(c api.Class) bool {
	may := len(c.Watch) <= 12 && len(c.Hooks) <= 12 && len(c.Peek) <= 60 && len(c.Make) <= 60
	for _, s := range c.Watch {
		may = may && name.Right(s) && name.Small(s) == s
	}
	for _, h := range c.Hooks {
		may = may && h.Kind >= 1 && h.Kind <= 8 && len(h.Do) <= 60
	}
	return may
}

// isPlace tells whether at is a place of the definitions.
func isPlace(w api.World, at int) bool { return at >= 0 && at < len(w.Desk.Defs) }

func isNode(w api.World, n int) bool { return n >= 0 && n < len(w.Forest.Nodes) }

func todoByWords(w api.World, t api.Todo) bool {
	if t.Kind == 9 {
		return isPlace(w, t.Def)
	}
	return t.Kind >= 1 && t.Kind <= 8
}

func stateByWords(w api.World, e api.Node, s api.State) bool {
	if e.Kind != 1 {
		return s.Phase == 0 && s.Def == -1 && s.Owner == -1 && !s.Barred
	}
	may := s.Phase >= 0 && s.Phase <= 4
	if s.Phase == 2 || s.Phase == 3 {
		may = may && isPlace(w, s.Def)
	}
	return may && (s.Def == -1 || isPlace(w, s.Def)) && (s.Owner == -1 || isNode(w, s.Owner))
}

func taskByWords(w api.World, t api.Task) bool {
	drain := t.Kind == 1 && t.Ticket == 0 && t.Def == 0
	keep := t.Kind == 2 && t.Ticket >= 0 && isPlace(w, t.Def)
	return drain || keep
}

func buildByWords(w api.World, b api.Build) bool {
	elem := isNode(w, b.Node) && w.Forest.Nodes[b.Node].Kind == 1
	return isPlace(w, b.Def) && (elem || b.Node == -4)
}

// partsByWords tells whether the parts of w are right, by themselves and beside each other.
func partsByWords(w api.World) bool {
	may := len(w.Classes) <= 12 && forest.Right(w.Forest) && desk.Right(w.Desk) && line.Right(w.Line)
	for _, c := range w.Classes {
		may = may && allowedByWords(c)
	}
	for _, x := range w.Desk.Defs {
		may = may && x.Class >= 0 && x.Class < len(w.Classes)
	}
	return may && len(w.States) == len(w.Forest.Nodes) && len(w.Line.Todos) == len(w.Forest.Nodes)
}

func rightByWords(w api.World) bool {
	if !partsByWords(w) {
		return false
	}
	may := true
	for _, t := range slices.Concat(w.Line.Todos...) {
		may = may && todoByWords(w, t)
	}
	for n, e := range w.Forest.Nodes {
		may = may && stateByWords(w, e, w.States[n])
	}
	for _, t := range w.Tasks {
		may = may && taskByWords(w, t)
	}
	for _, b := range w.Builds {
		may = may && buildByWords(w, b)
	}
	return may
}

// told is what a call answers.
type told struct {
	w   api.World
	err api.Errno
}

// enlisted answers w with what is due, each in order.
func enlisted(w api.World, due []api.Due) api.World {
	for _, x := range due {
		l, tell, _ := line.Add(w.Line, x.Node, x.Todo)
		w.Line = l
		if tell {
			w.Tasks = slices.Concat(w.Tasks, []api.Task{{Kind: 1}})
		}
	}
	return w
}

func enlistByWords(w api.World, due []api.Due) told {
	may := rightByWords(w)
	for _, x := range due {
		may = may && isNode(w, x.Node) && todoByWords(w, x.Todo)
	}
	if !may {
		return told{w, 1}
	}
	return told{enlisted(w, due), 0}
}

func tellByWords(w api.World, f api.Forest, notes []api.Note) told {
	may := rightByWords(w) && forest.Right(f) && f.Most == w.Forest.Most
	for n, e := range w.Forest.Nodes {
		may = may && n < len(f.Nodes) && f.Nodes[n].Kind == e.Kind
	}
	if !may {
		return told{w, 1}
	}
	states := slices.Clone(w.States)
	for n := len(w.Forest.Nodes); n < len(f.Nodes); n++ {
		s := api.State{Phase: 0, Def: -1, Owner: -1}
		if e := f.Nodes[n]; e.Kind == 1 {
			s.Phase = heir.Born(e.Name, e.Is)
		}
		states, w.Line = append(states, s), line.Grow(w.Line)
	}
	w.Forest, w.States = f, states
	w = enlisted(w, watch.Due(w.Forest, w.States, w.Desk, w.Classes, notes))
	now, due := duty.Told(w.Forest, w.States, w.Desk, w.Classes)
	w.States = now
	return told{enlisted(w, due), 0}
}

func restedByWords(w api.World) bool {
	return line.Idle(w.Line) && len(w.Tasks) == 0 && len(w.Builds) == 0 && !w.Desk.Busy
}

func clearByWords(w api.World) api.World {
	w = sample.CopyWorld(w)
	for n := range w.Line.Todos {
		w.Line.Todos[n] = nil
	}
	w.Line.Stack, w.Line.Back, w.Line.Busy = nil, nil, false
	w.Tasks, w.Builds, w.Desk.Busy = nil, nil, false
	return w
}
