package duty_test

import (
	"slices"
	"strconv"
	"testing"

	"instar/api"
	"instar/desk"
	"instar/duty"
	"instar/move"
	"instar/sample"
)

// told, reset and restore ask the program.
func (a asked) told() ([]api.State, []api.Due) {
	return duty.Told(a.Forest, a.States, a.Desk, a.Classes)
}
func (a asked) reset(x int) []api.Due { return duty.Reset(a.Forest, a.States, a.Desk, a.Classes, x) }
func (a asked) restore(n int, s string) []api.Due {
	return duty.Restore(a.Forest, a.States, a.Desk, a.Classes, n, s)
}

// hooks answers hooks of these kinds.
func hooks(kinds ...int) []api.Hook {
	var l []api.Hook
	for _, kind := range kinds {
		l = append(l, sample.Hook(kind, 1, 1))
	}
	return l
}

// staff answers the classes of x-a to x-e: x-a is for forms, and hears of all that is told to elements of forms; x-b
// is for forms, and hears of nothing of that; x-c is for no form, and hears of all; x-d and x-e are for forms, and hear
// of Owned and Cleared, and of Barred and Restored, alone.
func staff() []api.Class {
	return []api.Class{
		{Form: true, Hooks: hooks(api.Restored, api.Cleared, api.Barred, api.Owned)},
		{Form: true, Hooks: hooks(api.Came, api.Went, api.Moved, api.Changed)},
		{Hooks: hooks(api.Owned, api.Barred, api.Cleared, api.Restored)},
		{Form: true, Hooks: hooks(api.Owned, api.Cleared)},
		{Form: true, Hooks: hooks(api.Barred, api.Restored)},
	}
}

// stage answers a scene of staff's elements: each one of f by such a name is Custom by that, and was told that it has
// no owner, and isn't barred; all others are Plain.
func stage(f api.Forest) asked {
	s := sample.Scene{Forest: f, States: sample.States(len(f.Nodes), sample.State(api.Plain, api.None)), Desk: sample.Named(), Classes: staff()}
	for n, e := range f.Nodes {
		if def := desk.Find(s.Desk, e.Name, ""); def != api.None {
			s.States[n] = sample.State(api.Custom, def)
		}
	}
	return ask(s)
}

// owned, barred, cleared and restored are what n is told.
func owned(n, from, to int) api.Due {
	return api.Due{Node: n, Todo: api.Todo{Kind: api.Owned, From: from, To: to}}
}
func barred(n int, on bool) api.Due {
	return api.Due{Node: n, Todo: api.Todo{Kind: api.Barred, On: on}}
}
func cleared(n int) api.Due { return api.Due{Node: n, Todo: api.Todo{Kind: api.Cleared}} }
func restored(n int, s string) api.Due {
	return api.Due{Node: n, Todo: api.Todo{Kind: api.Restored, New: s}}
}

// checkTold checks that just this is told, and that the states are as they were, but for these.
func checkTold(t *testing.T, what string, a asked, other map[int]api.State, want ...api.Due) []api.State {
	t.Helper()
	states := slices.Clone(a.States)
	for n, s := range other {
		states[n] = s
	}
	now, l := a.told()
	if !slices.Equal(l, want) {
		t.Errorf("%s: told of %v, not of %v", what, l, want)
	}
	if !slices.Equal(now, states) {
		t.Errorf("%s: the states are %v, not %v", what, now, states)
	}
	return now
}

// The chapter's example: an input that goes into a form's legend is told of Owned, and of nothing else.
func TestExample(t *testing.T) {
	f := sample.Rooted(`<form><fieldset disabled=""><legend></legend></fieldset></form>`)
	f = sample.Plant(f, sample.ElemIs("input", "x-a"))
	a := ask(stage(f).With(func(s *sample.Scene) {
		s.Desk.Defs[0].Local = "input"
		s.States[4] = sample.State(api.Custom, 0)
	}))
	checkTold(t, "alone", a, nil)
	g, _, err := move.Insert(f, 4, 3, api.None)
	if err != api.OK {
		t.Fatal(err)
	}
	a.Forest = g
	checkTold(t, "in the legend", a, map[int]api.State{4: {Phase: api.Custom, Def: 0, Owner: 1}}, owned(4, api.None, 1))
}

// P15.1: whoever has another owner than it was told is told which one it had, and which one it has: whatever it was
// told last, be it a node or none; whoever has the same isn't told. So it is with who is barred.
func TestTold(t *testing.T) {
	for s, is := range map[string]api.State{
		`<form><p><x-a></x-a></p></form>`:                                    {Owner: 1},
		`<form><fieldset disabled=""><x-a></x-a></fieldset></form>`:          {Owner: 1, Barred: true},
		`<div><fieldset disabled=""><x-a></x-a></fieldset></div>`:            {Owner: api.None, Barred: true},
		`<div><p><x-a></x-a></p></div>`:                                      {Owner: api.None},
		`<div><form id="f"></form><x-a form="f"></x-a></div>`:                {Owner: 2},
		`<form id="f"><i></i><x-a form="g" disabled=""></x-a></form>`:        {Owner: api.None, Barred: true},
		`<form><form><x-a></x-a></form></form>`:                              {Owner: 2},
		`<div>{<form><x-a disabled=""></x-a></form>}</div>`:                  {Owner: 3, Barred: true},
		`<form><p disabled="">{<x-a></x-a>}</p></form>`:                      {Owner: api.None},
		`<form><fieldset disabled=""><p>{<x-a></x-a>}</p></fieldset></form>`: {Owner: api.None},
	} {
		f := sample.Rooted(s)
		n := slices.IndexFunc(f.Nodes, func(e api.Node) bool { return e.Name == "x-a" })
		is.Phase = api.Custom
		for _, was := range []int{api.None, 0, 1, 2, 3, n, 77, -7, sample.Least, sample.Greatest} {
			for _, shut := range []bool{false, true} {
				a := stage(f)
				a.States[n].Owner, a.States[n].Barred = was, shut
				var want []api.Due
				if was != is.Owner {
					want = append(want, owned(n, was, is.Owner))
				}
				if shut != is.Barred {
					want = append(want, barred(n, is.Barred))
				}
				checkTold(t, s, a, map[int]api.State{n: is}, want...)
			}
		}
	}
}

// P15.1: the state goes on whether or not the class hears of it; what it doesn't hear of isn't told.
func TestUnheard(t *testing.T) {
	f := sample.Rooted(`<fieldset disabled=""><form><x-a></x-a><x-b></x-b><x-c></x-c><x-d></x-d><x-e></x-e></form></fieldset>`)
	is := func(def int) api.State { return api.State{Phase: api.Custom, Def: def, Owner: 2, Barred: true} }
	other := map[int]api.State{3: is(0), 4: is(1), 6: is(3), 7: is(4)}
	checkTold(t, "at first", stage(f), other, owned(3, api.None, 2), barred(3, true), owned(6, api.None, 2), barred(7, true))
}

// P15.1: they are told in the order of their numbers, not in tree order; of each one the owner comes first.
func TestToldOrder(t *testing.T) {
	f := sample.Forest(20, sample.Elem("x-a"), sample.Elem("x-e"), sample.Elem("form"), sample.Elem("x-a"), sample.Elem("fieldset"), sample.Elem("x-d"), sample.Elem("x-a"))
	f.Nodes[5].Attrs = []api.Attr{{Name: "disabled"}}
	sample.Hang(f, 3, 7, 5, 1)
	sample.Hang(f, 5, 6, 4, 2)
	var alone []api.State
	for n, e := range stage(f).States {
		e.Owner, e.Barred = 3, n == 2 || n == 4 || n == 6
		alone = append(alone, e)
	}
	other := map[int]api.State{1: alone[1], 2: alone[2], 4: alone[4], 6: alone[6], 7: alone[7]}
	want := []api.Due{owned(1, -1, 3), barred(2, true), owned(4, -1, 3), barred(4, true), owned(6, -1, 3), owned(7, -1, 3)}
	checkTold(t, "loose", stage(f), other, want...)
	sample.Hang(f, 0, 3)
	checkTold(t, "connected", stage(f), other, want...)
}

// P15.1, P15.2, P15.3: who is no form's element is told nothing, and its state stays as it was, whatever it is: who
// isn't Custom, has no class, or one that isn't for forms, or is no Elem.
func TestNoFormElement(t *testing.T) {
	f := sample.Rooted(`<form disabled=""><x-a disabled="">"t"</x-a><p>{<x-a></x-a>}</p></form>`)
	odd := func(phase, def int) api.State { return api.State{Phase: phase, Def: def, Owner: 77, Barred: true} }
	states := []api.State{odd(api.Custom, 2), odd(api.Custom, 5), odd(api.Custom, -1), odd(api.Custom, -2), odd(api.Custom, sample.Least), odd(api.Custom, sample.Greatest)}
	for _, phase := range []int{-1, api.Plain, api.Open, api.Half, api.Failed, 5, sample.Least, sample.Greatest} {
		states = append(states, odd(phase, 0))
	}
	for i, s := range states {
		a := stage(f)
		a.States = sample.States(len(f.Nodes), s)
		checkNothing(t, strconv.Itoa(i), a, 1)
	}
	a := stage(f)
	a.States = sample.States(len(f.Nodes), odd(api.Custom, 0))
	for n, e := range f.Nodes {
		if e.Kind == api.Elem {
			a.States[n].Phase = api.Half
		}
	}
	checkNothing(t, "no Elems", a, 1)
	a = stage(f)
	a.Classes = a.Classes[:0]
	checkNothing(t, "no classes", a, 1)
	a = stage(f)
	a.Desk = api.Desk{}
	checkNothing(t, "no definitions", a, 1)
}

// checkNothing checks that nothing is told of anybody, whatever is asked, and that the states are as they were.
func checkNothing(t *testing.T, what string, a asked, forms ...int) {
	t.Helper()
	checkTold(t, what, a, nil)
	for _, x := range forms {
		if l := a.reset(x); len(l) != 0 {
			t.Errorf("%s: reset of %d: %v", what, x, l)
		}
	}
	for n := range a.Forest.Nodes {
		if l := a.restore(n, "s"); len(l) != 0 {
			t.Errorf("%s: restored: %v", what, l)
		}
	}
}

// P15.1, P15.3: an element's class is that of its state, and of the definition there, whatever its name is.
func TestByState(t *testing.T) {
	a := stage(sample.Rooted(`<form><p></p><x-b></x-b></form>`))
	a.States[2], a.States[3] = sample.State(api.Custom, 3), sample.State(api.Custom, 4)
	a.Desk.Defs[3].Class, a.Desk.Defs[4].Class, a.Desk.Defs[0].Class = 0, 3, 4
	other := map[int]api.State{2: {Phase: api.Custom, Def: 3, Owner: 1}, 3: {Phase: api.Custom, Def: 4, Owner: 1}}
	checkTold(t, "p and x-b", a, other, owned(2, -1, 1), owned(3, -1, 1))
	if l := a.restore(2, "s"); !slices.Equal(l, []api.Due{restored(2, "s")}) || len(a.restore(3, "s")) != 0 {
		t.Errorf("restored: %v", l)
	}
}

// P15.2: a form's members are told, in tree order from its Root, wherever they stand, as far as they are forms'
// elements and hear of it.
func TestReset(t *testing.T) {
	f := sample.Forest(40, sample.Elem("x-d"), sample.Elem("x-a"), sample.Elem("form"), sample.Elem("p"), sample.Elem("x-a"), sample.Elem("x-b"), sample.Elem("x-c"),
		sample.Elem("x-e"), sample.Elem("form"), sample.Elem("x-a"), sample.Elem("x-a"), sample.Text("t"), sample.Elem("x-a"))
	f.Nodes[3].Attrs = []api.Attr{{Name: "id", Value: "f"}}
	for _, n := range []int{5, 13} {
		f.Nodes[n].Attrs = []api.Attr{{Name: "form", Value: "f"}}
	}
	sample.Hang(f, 4, 5, 3, 13, 11)
	sample.Hang(f, 3, 12, 8, 2, 6, 7, 1, 9)
	sample.Hang(f, 9, 10)
	check := func(what string, f api.Forest, x int, want ...api.Due) {
		t.Helper()
		if l := stage(f).reset(x); !slices.Equal(l, want) {
			t.Errorf("%s: of %d: %v, not %v", what, x, l, want)
		}
	}
	check("loose", f, 3, cleared(2), cleared(1))
	check("loose", f, 9, cleared(10))
	sample.Hang(f, 0, 4)
	check("connected", f, 3, cleared(5), cleared(2), cleared(1), cleared(13))
	check("connected", f, 9, cleared(10))
	for n := range f.Nodes {
		if n != 3 && n != 9 {
			check("no form", f, n)
		}
	}
	for _, n := range sample.WrongNumbers(f) {
		check("no node", f, n)
	}
	check("no members", sample.Rooted(`<form></form>`), 1)
}

// P15.2, P15.3: what the states say that they were told last doesn't matter: who is reset is asked of the forest.
func TestUntold(t *testing.T) {
	for _, x := range []int{api.None, 1, 2, 77} {
		a := stage(sample.Rooted(`<form><form><x-a></x-a></form><x-a></x-a></form>`))
		a.States[3].Owner, a.States[4].Owner, a.States[3].Barred = x, x, true
		if l := a.reset(1); !slices.Equal(l, []api.Due{cleared(4)}) {
			t.Errorf("told last of %d: reset of 1: %v", x, l)
		}
		if l := a.reset(2); !slices.Equal(l, []api.Due{cleared(3)}) {
			t.Errorf("told last of %d: reset of 2: %v", x, l)
		}
		if l := a.restore(3, ""); !slices.Equal(l, []api.Due{restored(3, "")}) {
			t.Errorf("told last of %d: restored: %v", x, l)
		}
	}
}

// P15.3: a form's element that hears of it gets back whatever text it is, whether or not it has a form.
func TestRestore(t *testing.T) {
	a := stage(sample.Rooted(`<p><x-a></x-a><x-b></x-b><x-c></x-c><x-d></x-d><x-e>{<x-a></x-a>}"t"</x-e></p>`))
	for _, s := range []string{"", "old", "\x00\xff", string(make([]byte, 1<<16))} {
		for n, e := range a.Forest.Nodes {
			var want []api.Due
			if e.Name == "x-a" || e.Name == "x-e" {
				want = []api.Due{restored(n, s)}
			}
			if l := a.restore(n, s); !slices.Equal(l, want) {
				t.Errorf("%d gets %.99q: told %d", n, s, len(l))
			}
		}
		for _, n := range sample.WrongNumbers(a.Forest) {
			if l := a.restore(n, s); len(l) != 0 {
				t.Errorf("%d gets %.99q: told %d", n, s, len(l))
			}
		}
	}
}

// P15.1, P15.2, P15.3: of what isn't right nothing is told: of a forest, a desk, or a state more or less.
func TestNotRight(t *testing.T) {
	f := sample.Rooted(`<form disabled=""><x-a disabled=""></x-a><x-a></x-a>"t"</form>`)
	all := map[string]asked{}
	for what, d := range sample.WrongDesks() {
		all["desk: "+what] = ask(stage(f).With(func(s *sample.Scene) { s.Desk = d }))
	}
	late := sample.Manned()
	late.Waits[99999].Ticket = 99998
	all["the last of all who wait"] = ask(stage(f).With(func(s *sample.Scene) { s.Desk = late }))
	for what, spoil := range map[string]func(s *sample.Scene){
		"a state less":        func(s *sample.Scene) { s.States = s.States[:4] },
		"a state more":        func(s *sample.Scene) { s.States = append(s.States, sample.State(api.Custom, 0)) },
		"no states":           func(s *sample.Scene) { s.States = nil },
		"no forest":           func(s *sample.Scene) { s.Forest = api.Forest{} },
		"Most 0":              func(s *sample.Scene) { s.Forest.Most = 0 },
		"disabled twice":      func(s *sample.Scene) { s.Forest.Nodes[2].Attrs = slices.Repeat(s.Forest.Nodes[2].Attrs, 2) },
		"a form in itself":    func(s *sample.Scene) { sample.Cut(s.Forest, 1); sample.Hang(s.Forest, 1, 1) },
		"a great FORM":        func(s *sample.Scene) { s.Forest.Nodes[1].Name = "FORM" },
		"a Text by that name": func(s *sample.Scene) { s.Forest.Nodes[4].Name = "x-a" },
	} {
		all[what] = ask(stage(f).With(spoil))
	}
	for what, g := range sample.Wrong() {
		all[what] = stage(g)
	}
	for what, a := range all {
		if a.right {
			t.Errorf("%s: is right", what)
		}
		a.Classes = slices.Repeat(staff()[:1], api.MaxClasses)
		for n := range a.States {
			a.States[n].Phase, a.States[n].Def = api.Custom, 0
		}
		checkNothing(t, what, a, 1, 2, 3)
	}
}
