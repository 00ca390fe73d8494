package world_test

import (
	"fmt"
	"slices"
	"strconv"
	"strings"
	"testing"

	"instar/api"
	"instar/forest"
	"instar/move"
	"instar/print"
	"instar/sample"
	"instar/shade"
	"instar/world"
)

// check checks that a call came to this world.
func check(t *testing.T, what string, got told, want told) {
	t.Helper()
	if got.err != want.err {
		t.Errorf("%s: the error is %d, not %d", what, got.err, want.err)
	}
	if sample.SameWorld(got.w, want.w) {
		return
	}
	v, w := parts(got.w), parts(want.w)
	for i, part := range v {
		if part != w[i] {
			t.Errorf("%s: came to %s, not to %s", what, short(part), short(w[i]))
		}
	}
}

// parts tells of each part of w.
func parts(w api.World) []string {
	return []string{
		fmt.Sprint("forest ", w.Forest), fmt.Sprint("states ", w.States), fmt.Sprint("desk ", w.Desk), fmt.Sprint("line ", w.Line),
		fmt.Sprint("tasks ", w.Tasks), fmt.Sprint("builds ", w.Builds), fmt.Sprint("classes ", w.Classes),
	}
}

// short answers as much of s as can be read.
func short(s string) string { return s[:min(len(s), 500)] }

// newWorld, enlist and tell ask the program.
func newWorld(classes []api.Class, most int) told {
	w, err := world.New(classes, most)
	return told{w, err}
}
func enlist(w api.World, due ...api.Due) told {
	w, err := world.Enlist(w, due)
	return told{w, err}
}
func tell(w api.World, f api.Forest, notes ...api.Note) told {
	w, err := world.Tell(w, f, notes)
	return told{w, err}
}

// with answers World with this change.
func with(change func(w *api.World)) api.World {
	w := sample.CopyWorld(sample.World())
	change(&w)
	return w
}

// odd are numbers about the edges, and far from them.
func odd() []int {
	l := []int{sample.Least, sample.Greatest, 27, 28, 400, -400}
	for n := -6; n <= 14; n++ {
		l = append(l, n)
	}
	return l
}

// P17.1: a class watches at most 12 attributes, each a name in its small form: known, custom or other, twice, too.
func TestAllowedWatch(t *testing.T) {
	for s, so := range map[string]bool{
		"a": true, "title": true, "x-a": true, "font-face": true, "_": true, "_9": true, "a.-_9": true, "svg": true, strings.Repeat("a", 40): true,
		"": false, "A": false, "aB": false, "x-A": false, "9": false, "-a": false, ".": false, "a b": false, "ä": false, "a\xff": false, "a\x00": false, strings.Repeat("a", 41): false,
	} {
		for at := range 3 {
			l := []string{"b", "b", "b"}
			l[at] = s
			if world.Allowed(api.Class{Watch: l}) != so {
				t.Errorf("who watches %q at %d may be: %v", s, at, !so)
			}
		}
	}
	for count := range 16 {
		if world.Allowed(api.Class{Watch: slices.Repeat([]string{"a"}, count)}) != (count <= 12) {
			t.Errorf("who watches %d may be: %v", count, count > 12)
		}
	}
}

// P17.1: a class has at most 12 hooks, each of a Kind from 1 to 8, some twice, too.
func TestAllowedHooks(t *testing.T) {
	for _, kind := range odd() {
		for at := range 3 {
			l := []api.Hook{{Kind: 1}, {Kind: 8}, {Kind: 4}}
			if l[at].Kind = kind; world.Allowed(api.Class{Hooks: l}) != (kind >= 1 && kind <= 8) {
				t.Errorf("who hears of %d at %d may be: %v", kind, at, world.Allowed(api.Class{Hooks: l}))
			}
		}
	}
	for count := range 16 {
		if world.Allowed(api.Class{Hooks: slices.Repeat([]api.Hook{{Kind: 4}}, count)}) != (count <= 12) {
			t.Errorf("with %d hooks it may be: %v", count, count > 12)
		}
	}
}

// P17.1: each program of a class has at most 60 operations; they may be any.
func TestAllowedPrograms(t *testing.T) {
	ops := map[string][]api.Op{"none": make([]api.Op, 63), "any": sample.Ops(-20, 63), "odd": slices.Repeat([]api.Op{{Kind: 77, A: sample.Least, S: "\xff"}}, 63)}
	for what, l := range ops {
		for _, count := range []int{0, 1, 59, 60, 61, 62, 63} {
			program := l[:count]
			for i, c := range []api.Class{
				{Peek: program}, {Make: program}, {Peek: program, Make: l[:60]}, {Peek: l[:60], Make: program}, {Hooks: []api.Hook{{Kind: 1, Do: program}}},
				{Peek: l[:60], Make: l[:60], Form: true, Hooks: []api.Hook{{Kind: 8, Do: l[:60]}, {Kind: 8}, {Kind: 3, Do: program}}},
			} {
				if world.Allowed(c) != (count <= 60) {
					t.Errorf("%s: %d: with %d operations it may be: %v", what, i, count, count > 60)
				}
			}
		}
	}
	if !world.Allowed(api.Class{}) {
		t.Error("what is nothing may not be")
	}
}

// P17.1: which worlds are right, at the edges.
func TestRight(t *testing.T) {
	for what, w := range sample.RightWorlds() {
		if !world.Right(w) {
			t.Errorf("%s: isn't right", what)
		}
	}
	for what, w := range sample.WrongWorlds() {
		if world.Right(w) {
			t.Errorf("%s: is right", what)
		}
	}
}

// P17.1: each number of a world at the edges, the places of definitions being 0 and 1, and the nodes 0 to 27.
func TestRightNumbers(t *testing.T) {
	among := func(n, least, most int) bool { return least <= n && n <= most }
	for _, n := range odd() {
		for what, c := range map[string]struct {
			change func(w *api.World)
			so     bool
		}{
			"a phase":           {func(w *api.World) { w.States[7].Phase = n }, among(n, 0, 4)},
			"without Def":       {func(w *api.World) { w.States[5].Phase = n }, n == 0 || n == 1 || n == 4},
			"a Text's phase":    {func(w *api.World) { w.States[6].Phase = n }, n == 0},
			"Plain's Def":       {func(w *api.World) { w.States[9].Def = n }, among(n, -1, 1)},
			"Open's Def":        {func(w *api.World) { w.States[5].Def = n }, among(n, -1, 1)},
			"Half's Def":        {func(w *api.World) { w.States[7].Def = n }, among(n, 0, 1)},
			"Custom's Def":      {func(w *api.World) { w.States[1].Def = n }, among(n, 0, 1)},
			"Failed's Def":      {func(w *api.World) { w.States[10].Def = n }, among(n, -1, 1)},
			"a Shade's Def":     {func(w *api.World) { w.States[23].Def = n }, n == -1},
			"an Owner":          {func(w *api.World) { w.States[1].Owner = n }, among(n, -1, 27)},
			"the first's Owner": {func(w *api.World) { w.States[0].Owner = n }, n == -1},
			"a todo":            {func(w *api.World) { w.Line.Todos[17] = []api.Todo{{Kind: n}} }, among(n, 1, 9)},
			"an upgrade":        {func(w *api.World) { w.Line.Todos[27] = []api.Todo{{Kind: 1}, {Kind: 9, Def: n}} }, among(n, 0, 1)},
			"a call":            {func(w *api.World) { w.Line.Todos[0] = []api.Todo{{Kind: 8, Def: n, From: n, To: n}} }, true},
			"in a list":         {func(w *api.World) { w.Line.Stack[2] = []int{0, n} }, among(n, 0, 27)},
			"in Back":           {func(w *api.World) { w.Line.Back = []int{n} }, among(n, 0, 27)},
			"a task":            {func(w *api.World) { w.Tasks[2] = api.Task{Kind: n} }, among(n, 1, 2)},
			"Keep's Ticket":     {func(w *api.World) { w.Tasks[2].Ticket = n }, n >= 0},
			"Keep's Def":        {func(w *api.World) { w.Tasks[2].Def = n }, among(n, 0, 1)},
			"Drain's Ticket":    {func(w *api.World) { w.Tasks[1].Ticket = n }, n == 0},
			"Drain's Def":       {func(w *api.World) { w.Tasks[1].Def = n }, n == 0},
			"a build's Def":     {func(w *api.World) { w.Builds[1].Def = n }, among(n, 0, 1)},
			"a build's Node":    {func(w *api.World) { w.Builds[2].Node = n }, n == -4 || among(n, 1, 5) || among(n, 7, 14) || n == 27},
			"a Class":           {func(w *api.World) { w.Desk.Defs[0].Class = n }, among(n, 1, 4)},
			"so many classes":   {func(w *api.World) { w.Classes = make([]api.Class, max(n, 0)%100) }, among(max(n, 0)%100, 3, 12)},
		} {
			if world.Right(with(c.change)) != c.so {
				t.Errorf("%s: with %d it is right: %v", what, n, !c.so)
			}
		}
	}
}

// P17.1: a new world has these classes, and a forest of one Doc.
func TestNew(t *testing.T) {
	doc := api.Node{Kind: api.Doc, Parent: api.None, Host: api.None, Under: api.None}
	for _, most := range odd() {
		for count := range 15 {
			classes := make([]api.Class, count)
			copy(classes, sample.Classes())
			want := told{err: api.ErrArg}
			if most >= 1 && most <= 400 && count <= 12 {
				want = told{w: api.World{
					Forest: api.Forest{Nodes: []api.Node{doc}, Most: most}, States: []api.State{{Def: api.None, Owner: api.None}},
					Line: api.Line{Todos: [][]api.Todo{nil}}, Classes: classes,
				}}
			}
			check(t, "of "+strconv.Itoa(count)+", at most "+strconv.Itoa(most), newWorld(classes, most), want)
		}
	}
	check(t, "at most 401", newWorld(nil, 401), told{err: api.ErrArg})
	for at := range 12 {
		classes := make([]api.Class, 12)
		if classes[at].Hooks = []api.Hook{{Kind: 9}}; newWorld(classes, 9).err != api.ErrArg {
			t.Errorf("the class %d may not be, and nobody sees it", at)
		}
	}
	if w := newWorld(sample.Classes(), 5).w; !world.Right(w) || !world.Rested(w) {
		t.Error("isn't right, or isn't rested")
	}
}

// due answers what is due to n, of that Kind.
func due(n, kind int) api.Due { return api.Due{Node: n, Todo: sample.Todos()[kind-1]} }

// upgrade answers that n is due to be upgraded.
func upgrade(n, def int) api.Due {
	return api.Due{Node: n, Todo: api.Todo{Kind: api.Upgrade, Def: def}}
}

// P17.2: what is due stands behind what is to be done, in order; behind the current list, if there is one.
func TestEnlistListed(t *testing.T) {
	w := sample.World()
	todos := sample.Todos()
	check(t, "in a list", enlist(w, due(26, 2), upgrade(0, 1), due(3, 5), due(26, 1)), told{w: with(func(w *api.World) {
		w.Line.Todos[26] = []api.Todo{todos[0], todos[3], todos[1], todos[0]}
		w.Line.Todos[0], w.Line.Todos[3] = []api.Todo{{Kind: api.Upgrade, Def: 1}}, []api.Todo{todos[4]}
		w.Line.Stack[2] = []int{2, 26, 0, 3, 26}
	})})
	check(t, "nothing", enlist(w), told{w: w})
}

// P17.2: where there is no list, who is due waits, and somebody is to be told of it, once, as long as it is Busy.
func TestEnlistBack(t *testing.T) {
	for _, busy := range []bool{false, true} {
		w := with(func(w *api.World) { w.Line.Stack, w.Line.Busy = nil, busy })
		want := with(func(w *api.World) {
			w.Line.Stack, w.Line.Back, w.Line.Busy = nil, []int{0, 27, 26, 27}, true
			w.Line.Todos[26] = append(w.Line.Todos[26], api.Todo{Kind: api.Upgrade})
			w.Line.Todos[27] = []api.Todo{sample.Todos()[7], sample.Todos()[0]}
			if !busy {
				w.Tasks = append(w.Tasks, api.Task{Kind: api.Drain})
			}
		})
		got := enlist(w, due(27, 8), upgrade(26, 0), due(27, 1))
		check(t, "in Back", got, told{w: want})
		again := enlist(got.w, due(1, 1))
		if again.err != api.OK || len(again.w.Tasks) != len(want.Tasks) || !slices.Equal(again.w.Line.Back, []int{0, 27, 26, 27, 1}) {
			t.Errorf("told again: %v", again.w.Tasks)
		}
		if none := enlist(w); none.w.Line.Busy != busy || len(none.w.Tasks) != 3 {
			t.Errorf("nothing is due, and somebody is told: %v", none.w.Tasks)
		}
	}
}

// P17.2: what may not be done isn't, nor what is due beside it, at whatever place.
func TestEnlistWrong(t *testing.T) {
	calm := with(func(w *api.World) { w.Line.Stack, w.Line.Busy = nil, false })
	for _, w := range []api.World{sample.World(), calm} {
		for _, n := range odd() {
			for what, c := range map[string]struct {
				due api.Due
				so  bool
			}{
				"a node":     {due(n, 1), n >= 0 && n < 28},
				"a Kind":     {api.Due{Node: 27, Todo: api.Todo{Kind: n}}, n >= 1 && n <= 9},
				"an upgrade": {upgrade(9, n), n == 0 || n == 1},
				"a call":     {api.Due{Node: 6, Todo: api.Todo{Kind: 8, Def: n}}, true},
			} {
				for at := range 3 {
					l := []api.Due{due(1, 3), due(0, 7)}
					got, want := enlist(w, slices.Insert(l, at, c.due)...), told{w, api.ErrArg}
					if c.so {
						want = enlistByWords(w, slices.Insert(l, at, c.due))
					}
					check(t, what+" "+strconv.Itoa(n), got, want)
					if (got.err == api.OK) != c.so {
						t.Errorf("%s: with %d it may be: %v", what, n, !c.so)
					}
				}
			}
		}
	}
}

// The chapter's example: an x-a more, that isn't connected.
func TestExample(t *testing.T) {
	w, _ := world.New(nil, 9)
	f, n, _ := forest.Make(w.Forest, sample.Elem("x-a"))
	got := tell(w, f)
	check(t, "an x-a more", got, told{w: api.World{
		Forest: f, States: []api.State{{Def: api.None, Owner: api.None}, {Phase: api.Open, Def: api.None, Owner: api.None}}, Line: api.Line{Todos: make([][]api.Todo, 2)},
	}})
	if n != 1 || !world.Right(got.w) || !world.Rested(got.w) {
		t.Error("isn't right, or isn't rested")
	}
}

// P17.3: each new node has no todos, and is as it was born: whoever has an Is, or a custom name, is Open.
func TestTellNew(t *testing.T) {
	w := sample.World()
	f := sample.Plant(w.Forest, sample.Elem("p"), sample.Elem("x-a"), sample.ElemIs("p", "x-z"), sample.Text("x-a"), api.Node{Kind: api.Frag}, api.Node{Kind: api.Doc},
		sample.Elem("font-face"), sample.Of(33, sample.Elem("x-q")), sample.ElemIs("x-a", "x-a"))
	f, _, err := shade.Attach(f, 29)
	if err != api.OK {
		t.Fatal(err)
	}
	plain := api.State{Phase: api.Plain, Def: api.None, Owner: api.None}
	open := api.State{Phase: api.Open, Def: api.None, Owner: api.None}
	check(t, "ten more", tell(w, f), told{w: with(func(w *api.World) {
		w.Forest, w.Line.Todos = f, append(w.Line.Todos, make([][]api.Todo, 10)...)
		w.States = append(w.States, plain, open, open, plain, plain, plain, plain, open, open, plain)
	})})
	check(t, "none more", tell(w, w.Forest), told{w: w})
}

// P17.3: what the notes ask for is enlisted, in order: of new nodes, too; notes that ask for nothing are none.
func TestTellNotes(t *testing.T) {
	w := with(func(w *api.World) { w.Line.Stack, w.Line.Busy, w.Tasks = nil, false, nil })
	f, n, err := print.Read(w.Forest, 0, `<p><x-a></x-a><x-b></x-b><button!x-c></button></p>`)
	if err != api.OK || n != 28 {
		t.Fatal(n, err)
	}
	changed := api.Note{Kind: api.Changed, Node: 26, Name: "title", Had: true, Has: true, Old: "o", New: "n"}
	notes := append(sample.Came(28, 31, 30, 29, 1, 99, -1, 6), changed)
	got := tell(w, f, append(notes, sample.Moved(0, 24, 26)...)...)
	want := enlisted(tell(w, f).w, []api.Due{
		upgrade(31, 1), upgrade(29, 0), {Node: 1, Todo: api.Todo{Kind: api.Came}},
		{Node: 26, Todo: api.Todo{Kind: api.Changed, Name: "title", Had: true, Has: true, Old: "o", New: "n"}}, {Node: 26, Todo: api.Todo{Kind: api.Moved, To: 24}},
	})
	check(t, "told", got, told{w: want})
	if !slices.Equal(got.w.Line.Back, []int{0, 31, 29, 1, 26, 26}) || !slices.Equal(got.w.Tasks, []api.Task{{Kind: api.Drain}}) || len(got.w.Line.Todos[26]) != 4 {
		t.Errorf("told of %v, and to be done is %v", got.w.Line.Back, got.w.Tasks)
	}
}

// P17.3: behind what the notes ask for, the elements of forms are told what they are now, and their states say so.
func TestTellForms(t *testing.T) {
	f := sample.Rooted(`<form><fieldset disabled=""><x-a></x-a></fieldset><x-a></x-a></form>`)
	w, _ := world.New([]api.Class{{Form: true, Hooks: []api.Hook{{Kind: api.Barred}, {Kind: api.Owned}, {Kind: api.Went}}}}, api.MaxNodes)
	w = tell(w, f).w
	w.Desk.Defs = []api.Def{{Name: "x-a", Local: "x-a"}}
	w.States[3], w.States[4] = sample.State(api.Custom, 0), sample.State(api.Custom, 0)
	owned := func(n, from, to int) api.Due {
		return api.Due{Node: n, Todo: api.Todo{Kind: api.Owned, From: from, To: to}}
	}
	barred := func(n int, on bool) api.Due { return api.Due{Node: n, Todo: api.Todo{Kind: api.Barred, On: on}} }
	went := api.Due{Node: 4, Todo: api.Todo{Kind: api.Went}}
	v := sample.CopyWorld(w)
	v.States[3], v.States[4] = api.State{Phase: api.Custom, Owner: 1, Barred: true}, api.State{Phase: api.Custom, Owner: 1}
	v = enlisted(v, []api.Due{owned(3, -1, 1), barred(3, true), owned(4, -1, 1)})
	check(t, "at first", tell(w, f), told{w: v})
	check(t, "again", tell(v, f), told{w: v})
	g, notes, err := move.Remove(f, 4)
	if err != api.OK || len(notes) != 1 {
		t.Fatal(notes, err)
	}
	u := sample.CopyWorld(v)
	u.Forest, u.States[4].Owner = g, api.None
	check(t, "taken out", tell(v, g, notes...), told{w: enlisted(u, []api.Due{went, owned(4, 1, -1)})})
	g, notes, _ = move.Toggle(g, 2, "disabled", 0)
	u.Forest, u.States[3].Barred = g, false
	check(t, "both", tell(v, g, append(sample.Went(4), notes...)...), told{w: enlisted(u, []api.Due{went, barred(3, false), owned(4, 1, -1)})})
	v.Line.Stack = [][]int{{1}, {2}}
	check(t, "in a list", tell(v, g, sample.Went(4)...), tellByWords(v, g, sample.Went(4)))
	if l := tell(v, g, sample.Went(4)...).w; !slices.Equal(l.Line.Stack[1], []int{2, 4, 3, 4}) || len(l.Tasks) != 1 {
		t.Errorf("in a list: %v, %v", l.Line.Stack, l.Tasks)
	}
}

// P17.3: who is Open and waits is upgraded when it comes, though its state, and all else, is as it was.
func TestTellKeeps(t *testing.T) {
	w := sample.World()
	g := sample.Copy(w.Forest)
	g.Nodes[9].Name, g.Nodes[5].Is, g.Nodes[6].Data = "form", "", "other"
	g.Nodes[10].Attrs = []api.Attr{{Name: "disabled"}}
	sample.Cut(g, 2)
	check(t, "others by their names", tell(w, g), told{w: with(func(w *api.World) { w.Forest = g })})
	check(t, "5 comes", tell(w, g, sample.Came(5)...), told{w: enlisted(with(func(w *api.World) { w.Forest = g }), []api.Due{upgrade(5, 0)})})
}

// P17.3: it goes on to no forest that isn't right, has another Most, or lacks a node, or has one of another Kind.
func TestTellWrong(t *testing.T) {
	w := sample.World()
	for what, f := range sample.Wrong() {
		check(t, what, tell(w, f, sample.Came(1)...), told{w, api.ErrArg})
	}
	for what, spoil := range map[string]func(f *api.Forest){
		"a great name":        func(f *api.Forest) { f.Nodes[27].Name = "X-a" },
		"a Text with a name":  func(f *api.Forest) { f.Nodes[6].Name = "x-a" },
		"an attribute twice":  func(f *api.Forest) { f.Nodes[1].Attrs = []api.Attr{{Name: "a"}, {Name: "a"}} },
		"its own child":       func(f *api.Forest) { sample.Hang(*f, 27, 27) },
		"a child twice":       func(f *api.Forest) { f.Nodes[17].Kids = []int{18, 19, 18} },
		"a new one of Kind 5": func(f *api.Forest) { f.Nodes = append(f.Nodes, api.Node{Kind: 5, Parent: -1, Host: -1, Under: -1}) },
		"a new zero":          func(f *api.Forest) { f.Nodes = append(f.Nodes, api.Node{}) },
		"more than Most":      func(f *api.Forest) { f.Nodes = append(f.Nodes, slices.Repeat(f.Nodes[27:], 13)...) },
	} {
		f := sample.Copy(w.Forest)
		if spoil(&f); forest.Right(f) {
			t.Fatalf("%s: a forest", what)
		}
		check(t, what, tell(w, f, sample.Came(1)...), told{w, api.ErrArg})
	}
	for what, change := range map[string]func(f *api.Forest){
		"Most one more":    func(f *api.Forest) { f.Most++ },
		"Most one less":    func(f *api.Forest) { f.Most-- },
		"a node less":      func(f *api.Forest) { f.Nodes = f.Nodes[:27] },
		"a Text for an x":  func(f *api.Forest) { f.Nodes[27] = f.Nodes[6]; f.Nodes[27].Parent, f.Nodes[27].Doc = api.None, 24 },
		"an Elem for 6":    func(f *api.Forest) { f.Nodes[6].Kind, f.Nodes[6].Name, f.Nodes[6].Data = api.Elem, "x-a", "" },
		"a Frag for a Doc": func(f *api.Forest) { f.Nodes[24].Kind = api.Frag; ofDoc(*f, 24, 0) },
		"a Doc for a Frag": func(f *api.Forest) {
			sample.Cut(*f, 19)
			f.Nodes[17].Kind, f.Nodes[17].Doc, f.Nodes[18].Doc = api.Doc, 17, 17
		},
	} {
		f := sample.Copy(w.Forest)
		if change(&f); !forest.Right(f) {
			t.Fatalf("%s: no forest", what)
		}
		check(t, what, tell(w, f, sample.Came(1)...), told{w, api.ErrArg})
	}
	for what, v := range sample.WrongWorlds() {
		check(t, what, tell(v, w.Forest, sample.Came(1)...), told{v, api.ErrArg})
		check(t, what, tell(v, v.Forest), told{v, api.ErrArg})
		check(t, what, enlist(v, due(1, 1)), told{v, api.ErrArg})
		check(t, what, enlist(v), told{v, api.ErrArg})
	}
}

// ofDoc makes the nodes of a document those of another one.
func ofDoc(f api.Forest, was, doc int) {
	for n := range f.Nodes {
		if f.Nodes[n].Doc == was {
			f.Nodes[n].Doc = doc
		}
	}
}

// P17.4: a world is rested just where there is nothing at all that is to be done, or being done.
func TestRested(t *testing.T) {
	rested := with(func(w *api.World) {
		w.Line, w.Tasks, w.Builds = api.Line{Todos: make([][]api.Todo, 28), Stack: [][]int{}, Back: []int{}}, []api.Task{}, []api.Build{}
	})
	if !world.Rested(rested) || !world.Rested(api.World{}) {
		t.Error("nothing is to be done, and it isn't rested")
	}
	for what, change := range map[string]func(w *api.World){
		"a todo":      func(w *api.World) { w.Line.Todos[27] = []api.Todo{{}} },
		"a list":      func(w *api.World) { w.Line.Stack = [][]int{nil} },
		"Back":        func(w *api.World) { w.Line.Back = []int{0} },
		"Busy":        func(w *api.World) { w.Line.Busy = true },
		"Drain":       func(w *api.World) { w.Tasks = []api.Task{{Kind: api.Drain}} },
		"no task":     func(w *api.World) { w.Tasks = []api.Task{{}} },
		"a build":     func(w *api.World) { w.Builds = []api.Build{{Node: api.Taken}} },
		"a busy desk": func(w *api.World) { w.Desk.Busy = true },
	} {
		w := sample.CopyWorld(rested)
		change(&w)
		for _, v := range []api.World{w, {Line: w.Line, Tasks: w.Tasks, Builds: w.Builds, Desk: api.Desk{Busy: w.Desk.Busy}}} {
			if world.Rested(v) {
				t.Errorf("%s: rested", what)
			}
		}
		check(t, what+", cleared", told{w: world.Clear(w)}, told{w: rested})
	}
	spoilt := sample.CopyWorld(rested)
	spoilt.Forest, spoilt.States, spoilt.Classes = api.Forest{}, nil, make([]api.Class, 99)
	spoilt.States = sample.States(3, sample.State(77, 77))
	if world.Right(spoilt) || !world.Rested(spoilt) {
		t.Error("what isn't right, and has nothing to be done, isn't rested")
	}
}

// P17.4: cleared, a world has as many nodes as it had, and nothing is to be done; all else is as it was.
func TestClear(t *testing.T) {
	w := sample.World()
	w.Desk.Busy = true
	got := world.Clear(w)
	want := sample.World()
	want.Line, want.Tasks, want.Builds = api.Line{Todos: make([][]api.Todo, 28)}, nil, nil
	check(t, "some of all", told{w: got}, told{w: want})
	if !world.Right(got) || !world.Rested(got) {
		t.Error("cleared, it isn't right, or isn't rested")
	}
	odd := with(func(w *api.World) {
		w.Forest, w.Desk.Next, w.Line.Back, w.Tasks = api.Forest{Most: -1}, -7, []int{99}, []api.Task{{Kind: 77}}
	})
	got = world.Clear(odd)
	odd.Line, odd.Tasks, odd.Builds = api.Line{Todos: make([][]api.Todo, 28)}, nil, nil
	check(t, "odd", told{w: got}, told{w: odd})
}
