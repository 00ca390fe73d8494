package sample

import "instar/api"

// Realm answers a world that chance has put together, the same one for each seed; it is right. Its elements are those
// of a bureau, some of them custom ones; its classes hear of all kinds of things.
func Realm(seed int) api.World {
	c := chance(seed)
	w := api.World{Forest: Bureau(seed), Desk: Office(seed), Classes: Guild(seed)}
	for i, x := range Crew(seed) {
		w.Classes[i].Form, w.Classes[i].Hooks = x.Form, append(w.Classes[i].Hooks, x.Hooks...)
	}
	for n := range w.Forest.Nodes {
		if e := &w.Forest.Nodes[n]; e.Name == "x-a" {
			e.Name, e.Is = c.pick("x-a", "x-b", "x-c", "button", "p"), c.pick("", "", "x-a", "x-b", "x-c")
		}
	}
	for _, e := range w.Forest.Nodes {
		w.States = append(w.States, c.state(w, e))
	}
	w.Line = c.line(len(w.Forest.Nodes))
	for _, todos := range w.Line.Todos {
		for i := range todos {
			if t := &todos[i]; t.Kind == api.Upgrade {
				t.Kind, t.Def = c.upgrade(w)
			}
		}
	}
	w.Tasks, w.Builds = c.tasks(w), c.builds(w)
	return w
}

// state answers a state that e may have in w.
func (c *chance) state(w api.World, e api.Node) api.State {
	if e.Kind != api.Elem {
		return State(api.Plain, api.None)
	}
	s := api.State{Phase: c.below(5), Def: c.below(len(w.Desk.Defs)+1) - 1, Owner: c.below(len(w.Forest.Nodes)+1) - 1, Barred: c.below(2) == 0}
	if s.Def == api.None && (s.Phase == api.Half || s.Phase == api.Custom) {
		s.Phase = api.Open
	}
	return s
}

// upgrade answers the Kind and the Def of an upgrade that may be in w; of a call, if nothing is defined.
func (c *chance) upgrade(w api.World) (int, int) {
	if len(w.Desk.Defs) == 0 {
		return api.Went, 0
	}
	return api.Upgrade, c.below(len(w.Desk.Defs))
}

// tasks answers some that may be in w.
func (c *chance) tasks(w api.World) []api.Task {
	var l []api.Task
	for range c.below(4) {
		t := api.Task{Kind: api.Drain}
		if defs := len(w.Desk.Defs); defs > 0 && c.below(2) == 0 {
			t = api.Task{Kind: api.Keep, Ticket: c.below(9), Def: c.below(defs)}
		}
		l = append(l, t)
	}
	return l
}

// builds answers some that may be in w.
func (c *chance) builds(w api.World) []api.Build {
	var l []api.Build
	for range c.below(4) {
		n := c.below(len(w.Forest.Nodes))
		if w.Forest.Nodes[n].Kind != api.Elem {
			n = api.Taken
		}
		if defs := len(w.Desk.Defs); defs > 0 {
			l = append(l, api.Build{Def: c.below(defs), Node: n})
		}
	}
	return l
}

// Upheaval answers the realm of that seed, with one thing changed by chance: it may still be right, or not.
func Upheaval(seed int) api.World {
	c, w := chance(seed), Realm(seed)
	n, odd := c.below(len(w.States)), c.number()
	s, x := &w.States[n], &w.Classes[c.below(len(w.Classes))]
	changes := []func(){
		func() { s.Phase = odd },
		func() { s.Def = odd },
		func() { s.Owner = odd },
		func() { s.Barred = !s.Barred },
		func() { w.Line.Todos[n] = append(w.Line.Todos[n], api.Todo{Kind: odd}) },
		func() { w.Line.Todos[n] = append(w.Line.Todos[n], api.Todo{Kind: api.Upgrade, Def: odd}) },
		func() { w.Line.Back = append(w.Line.Back, odd) },
		func() { w.Line.Stack = append(w.Line.Stack, []int{odd}) },
		func() { w.Tasks = append(w.Tasks, api.Task{Kind: 1 + c.below(2), Def: odd}) },
		func() { w.Tasks = append(w.Tasks, api.Task{Kind: 1 + c.below(2), Ticket: odd}) },
		func() { w.Tasks = append(w.Tasks, api.Task{Kind: odd}) },
		func() { w.Builds = append(w.Builds, api.Build{Def: odd, Node: api.Taken}) },
		func() { w.Builds = append(w.Builds, api.Build{Node: odd}) },
		func() { x.Hooks = append(x.Hooks, api.Hook{Kind: odd}) },
		func() { x.Watch = append(x.Watch, c.pick("a", "A", "", "x-a", "9", "_9")) },
		func() { x.Make = Ops(1, c.below(2)+api.MaxOps) },
		func() { w.Classes = w.Classes[:c.below(6)] },
		func() { w.States = w.States[:len(w.States)-c.below(2)] },
		func() { w.Line.Todos = append(w.Line.Todos, make([][]api.Todo, c.below(2))...) },
		func() { w.Desk.Next = odd },
		func() { w.Forest.Nodes[n].Parent = odd },
	}
	changes[c.below(len(changes))]()
	return w
}

// number answers one about the edges.
func (c *chance) number() int {
	if c.below(9) == 0 {
		return []int{Least, Greatest, 400}[c.below(3)]
	}
	return c.below(28) - 5
}
