package sample_test

import (
	"slices"
	"testing"

	"instar/api"
	"instar/sample"
	"instar/world"
)

// What is told to be right is so, what is told to be wrong isn't, and both come anew with each call.
func TestWorlds(t *testing.T) {
	spoil := func(w api.World) {
		sample.Scribble(w.Forest)
		clear(w.States)
		clear(w.Desk.Defs)
		clear(w.Line.Todos)
		clear(w.Tasks)
		clear(w.Builds)
		clear(w.Classes)
	}
	for range 2 {
		for what, w := range sample.RightWorlds() {
			if !world.Right(w) {
				t.Errorf("%s isn't right, or not any more", what)
			}
			spoil(w)
		}
		for what, w := range sample.WrongWorlds() {
			if world.Right(w) {
				t.Errorf("%s is right", what)
			}
			spoil(w)
		}
	}
}

// sameParts tells of each part of two worlds whether it is the same.
func sameParts(v, w api.World) []bool {
	return []bool{
		sample.Same(v.Forest, w.Forest), slices.Equal(v.States, w.States), sample.SameDesk(v.Desk, w.Desk), sample.SameLine(v.Line, w.Line),
		slices.Equal(v.Tasks, w.Tasks), slices.Equal(v.Builds, w.Builds), sample.SameClasses(v.Classes, w.Classes),
	}
}

// Each of those that are wrong, but for a forest or a desk, is World but for one part.
func TestOneFault(t *testing.T) {
	whole, single := sample.World(), 0
	for _, w := range sample.WrongWorlds() {
		others := slices.DeleteFunc(sameParts(w, whole), func(so bool) bool { return so })
		if len(others) == 1 {
			single++
		}
	}
	if all := len(sample.WrongWorlds()); single+len(sample.Wrong())+len(sample.WrongDesks())+1 != all {
		t.Errorf("%d of %d have one fault", single, all)
	}
}

// Realms are right, the same for each seed, and others for others; they have some of all.
func TestRealms(t *testing.T) {
	found := map[string]int{}
	for seed := range 200 {
		w := sample.Realm(seed)
		if !world.Right(w) || !sample.SameWorld(w, sample.Realm(seed)) {
			t.Errorf("the realm %d isn't right, or another one when asked for again", seed)
		}
		for _, s := range w.States {
			found["phase "+string(rune('0'+s.Phase))]++
		}
		for _, task := range w.Tasks {
			found["task "+string(rune('0'+task.Kind))]++
		}
		for what, so := range map[string]bool{
			"others": !sample.SameWorld(w, sample.Realm(seed+1)), "a list": len(w.Line.Stack) > 0, "no list": len(w.Line.Stack) == 0, "busy": w.Line.Busy, "not busy": !w.Line.Busy,
			"nothing is defined": len(w.Desk.Defs) == 0, "taken": slices.ContainsFunc(w.Builds, func(b api.Build) bool { return b.Node == api.Taken }),
			"built":     slices.ContainsFunc(w.Builds, func(b api.Build) bool { return b.Node != api.Taken }),
			"upgraded":  slices.ContainsFunc(slices.Concat(w.Line.Todos...), func(x api.Todo) bool { return x.Kind == api.Upgrade }),
			"for forms": slices.ContainsFunc(w.Classes, func(c api.Class) bool { return c.Form && len(c.Hooks) > 5 }),
		} {
			if so {
				found[what]++
			}
		}
	}
	if len(found) != 17 || found["others"] != 200 {
		t.Errorf("not the worlds that were meant: %v", found)
	}
	for what, times := range found {
		if times < 30 && what != "nothing is defined" {
			t.Errorf("seldom there: %s: %d", what, times)
		}
	}
}

// Upheavals are the same for each seed, some of them right, and some wrong by each of their parts.
func TestUpheavals(t *testing.T) {
	right, changed := 0, make([]int, 7)
	for seed := range 1000 {
		w, was := sample.Upheaval(seed), sample.Realm(seed)
		if !sample.SameWorld(w, sample.Upheaval(seed)) {
			t.Errorf("the upheaval %d is another one when asked for again", seed)
		}
		if world.Right(w) {
			right++
			continue
		}
		for i, same := range sameParts(w, was) {
			if !same {
				changed[i]++
			}
		}
	}
	if right < 200 || slices.Min(changed) < 10 {
		t.Errorf("not the worlds that were meant: %d are right; wrong by their parts: %v", right, changed)
	}
}

// worldChanges are ways to change a world, in what it has and in its spare room, by what it is that they change.
func worldChanges() map[string][]func(w *api.World) {
	return map[string][]func(w *api.World){
		"the forest":  {func(w *api.World) { w.Forest.Nodes[9].Name = "p" }, func(w *api.World) { _ = append(w.Forest.Nodes, api.Node{}) }},
		"the states":  {func(w *api.World) { w.States[9].Owner = 3 }, func(w *api.World) { _ = append(w.States, api.State{Def: 1}) }},
		"the desk":    {func(w *api.World) { w.Desk.Waits[1].Ticket = 3 }, func(w *api.World) { _ = append(w.Desk.Defs, api.Def{}) }},
		"the line":    {func(w *api.World) { w.Line.Todos[26][1].On = false }, func(w *api.World) { _ = append(w.Line.Todos[26], api.Todo{}) }},
		"the tasks":   {func(w *api.World) { w.Tasks[2].Ticket = 7 }, func(w *api.World) { _ = append(w.Tasks, api.Task{Kind: 1}) }},
		"the builds":  {func(w *api.World) { w.Builds[0].Node = 9 }, func(w *api.World) { _ = append(w.Builds, api.Build{Def: 1}) }},
		"the classes": {func(w *api.World) { w.Classes[0].Form = true }, func(w *api.World) { _ = append(w.Classes[1].Peek, api.Op{}) }},
	}
}

// Worlds are the same just where all is, and a copy is the same, but not the same memory.
func TestSameWorld(t *testing.T) {
	for what, changes := range worldChanges() {
		for i, change := range changes {
			w := sample.World()
			v := sample.CopyWorld(w)
			if !sample.SameWorld(v, w) || cap(v.States) != 28 || cap(v.Tasks) != 3 || cap(v.Builds) != 3 || cap(v.Line.Todos[26]) != 2 {
				t.Errorf("not a copy: %v", v)
			}
			change(&v)
			if sample.SameWorld(v, w) != (i == 1) || !sample.SameWorld(w, sample.World()) {
				t.Errorf("%s, %d: the change isn't seen, or is one of both", what, i)
			}
		}
	}
}

// Who asks is told what the call answers, and with what it isn't careful, if it isn't.
func TestAskWorld(t *testing.T) {
	want := sample.World()
	want.Desk.Next, want.Tasks = 9, nil
	w, fault := sample.AskWorld(sample.World(), func(w api.World) api.World {
		w = sample.CopyWorld(w)
		w.Desk.Next, w.Tasks = 9, nil
		return w
	})
	if fault != "" || !sample.SameWorld(w, want) {
		t.Errorf("nothing is changed, but %s is told; the answer is %v", fault, w)
	}
	for part, changes := range worldChanges() {
		for i, change := range changes {
			if _, fault := sample.AskWorld(sample.World(), func(w api.World) api.World { change(&w); return api.World{} }); fault != part {
				t.Errorf("%s, %d: told %q", part, i, fault)
			}
		}
	}
	for part, share := range map[string]func(w api.World) api.World{
		"the forest":  func(w api.World) api.World { return api.World{Forest: w.Forest} },
		"the states":  func(w api.World) api.World { return api.World{States: w.States[3:4]} },
		"the desk":    func(w api.World) api.World { return api.World{Desk: w.Desk} },
		"the line":    func(w api.World) api.World { return api.World{Line: w.Line} },
		"the tasks":   func(w api.World) api.World { return api.World{Tasks: w.Tasks[:0]} },
		"the builds":  func(w api.World) api.World { return api.World{Builds: w.Builds} },
		"the classes": func(w api.World) api.World { return api.World{Classes: w.Classes} },
	} {
		if _, fault := sample.AskWorld(sample.World(), share); fault != part {
			t.Errorf("%s is shared: told %q", part, fault)
		}
	}
}
