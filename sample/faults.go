package sample

import (
	"slices"
	"strings"

	"instar/api"
)

// WrongWorlds answers worlds that aren't right, each with one fault.
func WrongWorlds() map[string]api.World {
	faults := []map[string]func(w *api.World){classFaults(), partFaults(), stateFaults(), taskFaults()}
	wrong := map[string]api.World{"nothing": {}}
	for _, some := range faults {
		for what, spoil := range some {
			w := CopyWorld(World())
			spoil(&w)
			wrong[what] = w
		}
	}
	for what, f := range Wrong() {
		w := CopyWorld(World())
		count := len(f.Nodes)
		w.Forest, w.States, w.Line, w.Builds = f, States(count, State(api.Plain, api.None)), api.Line{Todos: make([][]api.Todo, count)}, nil
		wrong["forest: "+what] = w
	}
	for what, d := range WrongDesks() {
		w := CopyWorld(World())
		w.Desk, w.Classes = d, append(w.Classes, make([]api.Class, 7)...)
		wrong["desk: "+what] = w
	}
	return wrong
}

// classFaults are ways to spoil World's classes.
func classFaults() map[string]func(w *api.World) {
	return map[string]func(w *api.World){
		"13 classes":                func(w *api.World) { w.Classes = append(w.Classes, make([]api.Class, 8)...) },
		"no class for a definition": func(w *api.World) { w.Classes = w.Classes[:2] },
		"no classes":                func(w *api.World) { w.Classes = nil },
		"watches a capital":         func(w *api.World) { w.Classes[0].Watch[2] = "A" },
		"watches no name":           func(w *api.World) { w.Classes[2].Watch[0] = "" },
		"watches 13":                func(w *api.World) { w.Classes[4].Watch = strings.Fields(strings.Repeat("a ", 13)) },
		"13 hooks":                  func(w *api.World) { w.Classes[4].Hooks = slices.Repeat([]api.Hook{{Kind: 1}}, 13) },
		"a hook of no Kind":         func(w *api.World) { w.Classes[0].Hooks[1].Kind = 0 },
		"a hook of Upgrade":         func(w *api.World) { w.Classes[2].Hooks[7].Kind = api.Upgrade },
		"61 to peek":                func(w *api.World) { w.Classes[3].Peek = Ops(1, 61) },
		"61 to make":                func(w *api.World) { w.Classes[3].Make = Ops(1, 61) },
		"61 to do":                  func(w *api.World) { w.Classes[2].Hooks[7].Do = Ops(1, 61) },
	}
}

// partFaults are ways to spoil World's line, and how many there are of what goes by nodes.
func partFaults() map[string]func(w *api.World) {
	return map[string]func(w *api.World){
		"a state less":            func(w *api.World) { w.States = w.States[:27] },
		"a state more":            func(w *api.World) { w.States = append(w.States, State(api.Plain, api.None)) },
		"a list of todos less":    func(w *api.World) { w.Line.Todos = w.Line.Todos[:27] },
		"a list of todos more":    func(w *api.World) { w.Line.Todos = append(w.Line.Todos, nil) },
		"no node in a list":       func(w *api.World) { w.Line.Stack[0][1] = 28 },
		"no node in Back":         func(w *api.World) { w.Line.Back[0] = api.None },
		"a todo of no Kind":       func(w *api.World) { w.Line.Todos[26][1].Kind = 0 },
		"a todo of Kind 10":       func(w *api.World) { w.Line.Todos[9][0].Kind = 10 },
		"the last node's todo":    func(w *api.World) { w.Line.Todos[27] = []api.Todo{{Kind: -1}} },
		"an upgrade by None":      func(w *api.World) { w.Line.Todos[2][0].Def = api.None },
		"an upgrade by 2":         func(w *api.World) { w.Line.Todos[2][0].Def = 2 },
		"an upgrade by the least": func(w *api.World) { w.Line.Todos[0] = []api.Todo{{Kind: api.Upgrade, Def: Least}} },
	}
}

// stateFaults are ways to spoil World's states: 6 is a Text, 0 a Doc, 16 a Shade, 17 a Frag.
func stateFaults() map[string]func(w *api.World) {
	return map[string]func(w *api.World){
		"a Text that is Open":   func(w *api.World) { w.States[6].Phase = api.Open },
		"a Text that is Failed": func(w *api.World) { w.States[6].Phase = api.Failed },
		"a Doc by a definition": func(w *api.World) { w.States[0].Def = 0 },
		"a Shade with an Owner": func(w *api.World) { w.States[16].Owner = 9 },
		"a Frag that is barred": func(w *api.World) { w.States[17].Barred = true },
		"a Frag that is Custom": func(w *api.World) { w.States[17] = State(api.Custom, 0) },
		"phase -1":              func(w *api.World) { w.States[9].Phase = -1 },
		"phase 5":               func(w *api.World) { w.States[27].Phase = api.Failed + 1 },
		"the greatest phase":    func(w *api.World) { w.States[9].Phase = Greatest },
		"Half by None":          func(w *api.World) { w.States[7].Def = api.None },
		"Custom by None":        func(w *api.World) { w.States[1].Def = api.None },
		"Custom by 2":           func(w *api.World) { w.States[1].Def = 2 },
		"Plain by 2":            func(w *api.World) { w.States[9].Def = 2 },
		"Open by -2":            func(w *api.World) { w.States[5].Def = -2 },
		"Failed by the least":   func(w *api.World) { w.States[10].Def = Least },
		"owned by no node":      func(w *api.World) { w.States[9].Owner = 28 },
		"owned by -2":           func(w *api.World) { w.States[9].Owner = -2 },
		"owned by the greatest": func(w *api.World) { w.States[26].Owner = Greatest },
		"all zero for a Text":   func(w *api.World) { w.States[6] = api.State{} },
		"owned by Taken":        func(w *api.World) { w.States[9].Owner = api.Taken },
	}
}

// taskFaults are ways to spoil World's tasks and builds.
func taskFaults() map[string]func(w *api.World) {
	return map[string]func(w *api.World){
		"a task of no Kind":      func(w *api.World) { w.Tasks[1].Kind = 0 },
		"a task of Kind 3":       func(w *api.World) { w.Tasks[0].Kind = 3 },
		"Drain with a Ticket":    func(w *api.World) { w.Tasks[1].Ticket = 1 },
		"Drain with a Def":       func(w *api.World) { w.Tasks[1].Def = 1 },
		"Drain with None":        func(w *api.World) { w.Tasks[1].Def = api.None },
		"the ticket -1":          func(w *api.World) { w.Tasks[2].Ticket = -1 },
		"the least ticket kept":  func(w *api.World) { w.Tasks[0].Ticket = Least },
		"Keep with None":         func(w *api.World) { w.Tasks[0].Def = api.None },
		"Keep with 2":            func(w *api.World) { w.Tasks[2].Def = 2 },
		"a build by None":        func(w *api.World) { w.Builds[1].Def = api.None },
		"a build by 2":           func(w *api.World) { w.Builds[2].Def = 2 },
		"a build of a Text":      func(w *api.World) { w.Builds[0].Node = 6 },
		"a build of a Doc":       func(w *api.World) { w.Builds[0].Node = 0 },
		"a build of nobody":      func(w *api.World) { w.Builds[2].Node = api.None },
		"a build of Last":        func(w *api.World) { w.Builds[2].Node = api.Last },
		"a build of -5":          func(w *api.World) { w.Builds[1].Node = api.Taken - 1 },
		"a build of no node":     func(w *api.World) { w.Builds[2].Node = 28 },
		"a build of the last of": func(w *api.World) { w.Builds[2].Node = Greatest },
	}
}
