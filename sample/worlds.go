package sample

import (
	"slices"

	"instar/api"
)

// World answers a world with some of all: the clan's nodes, on Desk's desk, with Classes's classes.
//
//	1 and 26 are Custom, 7 and 13 Half, 10 failed, 5 is Open, all others are Plain
//	7 is built by the definition 0, on it, by 1, somebody who was taken, and on that, by 1, too, 13
//	26 and 9 are to be called, 2 is to be upgraded; the lists are 26 and 9; none; 2; and 0 waits by itself
//	the ticket 0 is to be told, then 0 to be seen to, then the ticket 6 to be told
func World() api.World {
	f, x := Clan(), Todos()
	w := api.World{
		Forest: f, States: States(len(f.Nodes), State(api.Plain, api.None)), Desk: Desk(), Classes: Classes(),
		Line:   api.Line{Todos: make([][]api.Todo, len(f.Nodes)), Stack: [][]int{{26, 9}, {}, {2}}, Back: []int{0}, Busy: true},
		Tasks:  []api.Task{{Kind: api.Keep, Def: 1}, {Kind: api.Drain}, {Kind: api.Keep, Ticket: 6}},
		Builds: []api.Build{{Def: 0, Node: 7}, {Def: 1, Node: api.Taken}, {Def: 1, Node: 13}},
	}
	w.States[7], w.States[13], w.States[1] = State(api.Half, 0), State(api.Half, 1), State(api.Custom, 1)
	w.States[5], w.States[10] = State(api.Open, api.None), State(api.Failed, api.None)
	w.States[26] = api.State{Phase: api.Custom, Def: 0, Owner: 9, Barred: true}
	w.Line.Todos[26], w.Line.Todos[9], w.Line.Todos[2] = []api.Todo{x[0], x[3]}, []api.Todo{x[7]}, []api.Todo{{Kind: api.Upgrade, Def: 1}}
	return w
}

// RightWorlds answers worlds that are right, at the edges.
func RightWorlds() map[string]api.World {
	one := api.World{Forest: Forest(1), States: []api.State{State(api.Plain, api.None)}, Line: api.Line{Todos: make([][]api.Todo, 1)}}
	all := map[string]api.World{"some of all": World(), "one Doc": one}
	for what, change := range map[string]func(w *api.World){
		"no lists":              func(w *api.World) { w.Line.Stack, w.Line.Back, w.Line.Busy = nil, nil, false },
		"no tasks, no builds":   func(w *api.World) { w.Tasks, w.Builds = nil, nil },
		"a desk that is busy":   func(w *api.World) { w.Desk.Busy = true },
		"a full forest":         func(w *api.World) { w.Forest = Full(w.Forest) },
		"12 classes":            func(w *api.World) { w.Classes = append(w.Classes, make([]api.Class, 7)...) },
		"a class as many as is": func(w *api.World) { w.Classes = w.Classes[:3] },
		"Open by a definition":  func(w *api.World) { w.States[5].Def = 1 },
		"Plain by a definition": func(w *api.World) { w.States[9].Def = 1 },
		"Failed by one":         func(w *api.World) { w.States[10].Def = 1 },
		"Plain, but barred":     func(w *api.World) { w.States[9].Barred = true },
		"owned by a Doc":        func(w *api.World) { w.States[9].Owner = 0 },
		"owned by the last":     func(w *api.World) { w.States[9].Owner = 27 },
		"owned by itself":       func(w *api.World) { w.States[9].Owner = 9 },
		"a Doc's todo":          func(w *api.World) { w.Line.Todos[0] = []api.Todo{{Kind: api.Upgrade, Def: 1}} },
		"a call by no place":    func(w *api.World) { w.Line.Todos[9][0].Def = -1 },
		"a great ticket":        func(w *api.World) { w.Tasks[0].Ticket = Greatest },
		"a build of who isn't":  func(w *api.World) { w.Builds[0].Node = 9 },
		"a build twice":         func(w *api.World) { w.Builds[2] = w.Builds[0] },
	} {
		w := CopyWorld(World())
		change(&w)
		all[what] = w
	}
	return all
}

// SameWorld tells whether two worlds are the same.
func SameWorld(v, w api.World) bool {
	return Same(v.Forest, w.Forest) && slices.Equal(v.States, w.States) && SameDesk(v.Desk, w.Desk) && SameLine(v.Line, w.Line) &&
		slices.Equal(v.Tasks, w.Tasks) && slices.Equal(v.Builds, w.Builds) && SameClasses(v.Classes, w.Classes)
}

// CopyWorld answers w in memory of its own, without spare room.
func CopyWorld(w api.World) api.World {
	return api.World{
		Forest: Copy(w.Forest), States: slices.Clip(slices.Clone(w.States)), Desk: CopyDesk(w.Desk), Line: CopyLine(w.Line),
		Tasks: slices.Clip(slices.Clone(w.Tasks)), Builds: slices.Clip(slices.Clone(w.Builds)), Classes: CopyClasses(w.Classes),
	}
}

// AskWorld answers, in memory of its own, what a call answers to w, and, if the call isn't careful with memory, with
// which part of the world: it changes what it is given, spare room and all, or shares memory with that, or the lists
// of its answer do with each other.
func AskWorld(w api.World, call func(w api.World) api.World) (api.World, string) {
	// Each time the call gets a copy but for what is looked at: else a change would be there already when it is
	// looked for.
	with := func(change func(w *api.World)) api.World {
		v := CopyWorld(w)
		change(&v)
		return call(v)
	}
	answer := CopyWorld(call(CopyWorld(w)))
	if _, fault := Ask(w.Forest, func(f api.Forest) api.Forest { return with(func(w *api.World) { w.Forest = f }).Forest }); fault != "" {
		return answer, "the forest"
	}
	if !Kept(w.States, func(l []api.State) { fill(with(func(w *api.World) { w.States = l }).States, api.State{Phase: 77}) }) {
		return answer, "the states"
	}
	if _, careful := AskDesk(w.Desk, func(d api.Desk) api.Desk { return with(func(w *api.World) { w.Desk = d }).Desk }); !careful {
		return answer, "the desk"
	}
	if _, _, fault := AskLine(w.Line, func(l api.Line) (api.Line, []int) { return with(func(w *api.World) { w.Line = l }).Line, nil }); fault != "" {
		return answer, "the line"
	}
	if !Kept(w.Tasks, func(l []api.Task) { fill(with(func(w *api.World) { w.Tasks = l }).Tasks, api.Task{Kind: 77}) }) {
		return answer, "the tasks"
	}
	if !Kept(w.Builds, func(l []api.Build) { fill(with(func(w *api.World) { w.Builds = l }).Builds, api.Build{Def: 77}) }) {
		return answer, "the builds"
	}
	if _, _, fault := AskClasses(w.Classes, func(l []api.Class) ([]api.Class, []api.Op) {
		return with(func(w *api.World) { w.Classes = l }).Classes, nil
	}); fault != "" {
		return answer, "the classes"
	}
	return answer, ""
}

// fill writes x all over l, spare room and all.
func fill[T any](l []T, x T) {
	l = l[:cap(l)]
	for i := range l {
		l[i] = x
	}
}
