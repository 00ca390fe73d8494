package world_test

import (
	"maps"
	"slices"
	"strconv"
	"testing"

	"instar/api"
	"instar/forest"
	"instar/move"
	"instar/sample"
	"instar/shade"
	"instar/twin"
	"instar/world"
)

// named is a world, and what it is.
type named struct {
	what string
	w    api.World
}

// worlds are all that is asked with: right and wrong ones, at the edges and by chance, always in the same order.
func worlds() []named {
	var l []named
	for _, some := range []map[string]api.World{sample.RightWorlds(), sample.WrongWorlds()} {
		for _, what := range slices.Sorted(maps.Keys(some)) {
			l = append(l, named{what, some[what]})
		}
	}
	for seed := range 500 {
		l = append(l, named{"realm " + strconv.Itoa(seed), sample.Realm(seed)})
	}
	for seed := range 2000 {
		l = append(l, named{"upheaval " + strconv.Itoa(seed), sample.Upheaval(seed)})
	}
	return l
}

// step answers f behind a step that this number picks, and what is told of it.
func step(f api.Forest, pick int) (api.Forest, []api.Note) {
	n, to := pick*7%len(f.Nodes), pick*11%len(f.Nodes)
	g, notes, err := f, []api.Note(nil), api.OK
	switch pick % 10 {
	case 0:
		g, notes, err = move.Remove(f, n)
	case 1:
		g, notes, err = move.Toggle(f, n, "disabled", 0)
	case 2:
		g, notes, err = move.Set(f, n, []string{"a", "title", "form"}[pick%3], "f")
	case 3:
		g, _, err = shade.Attach(f, n)
	case 4:
		g, _, err = twin.Copy(f, n, 0, true)
	case 5:
		g, _, err = forest.Make(f, []api.Node{sample.Elem("x-a"), sample.ElemIs("button", "x-b"), sample.Text("t")}[pick%3])
	case 6:
		g, notes, err = twin.Take(f, n, to)
	default:
		g, notes, err = move.Insert(f, n, to, api.None)
	}
	if err != api.OK {
		return f, nil
	}
	return g, notes
}

// dues answers some of what may be due, or may not, that go by this number.
func dues(seed int) []api.Due {
	var l []api.Due
	for i := range seed % 4 {
		x := due((seed*5+i*7)%21, 1+(seed+i)%9)
		x.Todo.Def = (seed + i) % 3
		l = append(l, x)
	}
	return l
}

// P17.1 to P17.4: all kinds of worlds against the chapter's words.
func TestWords(t *testing.T) {
	counts := map[string]int{}
	for seed, x := range worlds() {
		what, w := x.what, x.w
		if world.Right(w) != rightByWords(w) {
			t.Errorf("%s: right: %v", what, world.Right(w))
		}
		for i, c := range w.Classes {
			if world.Allowed(c) != allowedByWords(c) {
				t.Errorf("%s: the class %d may be: %v", what, i, world.Allowed(c))
			}
		}
		if world.Rested(w) != restedByWords(w) || !world.Rested(world.Clear(w)) {
			t.Errorf("%s: rested: %v", what, world.Rested(w))
		}
		check(t, what+": cleared", told{w: world.Clear(w)}, told{w: clearByWords(w)})
		l := dues(seed)
		want := enlistByWords(w, l)
		check(t, what+": enlisted", enlist(w, l...), want)
		counts["right "+strconv.FormatBool(rightByWords(w))]++
		counts["enlisted "+strconv.Itoa(int(want.err))]++
		counts["classes may be "+strconv.FormatBool(newWorld(w.Classes, 9).err == api.OK)]++
	}
	for what, times := range counts {
		if len(counts) != 6 || times < 150 {
			t.Errorf("not the worlds that were meant: %s: %d", what, times)
		}
	}
}

// P17.3: worlds that go on to forests to which theirs were changed, with notes of that, and any others.
func TestTellWords(t *testing.T) {
	counts, kinds := map[string]int{}, map[int]int{}
	for seed, x := range worlds() {
		w, f, notes := x.w, x.w.Forest, []api.Note(nil)
		if len(f.Nodes) == 0 {
			continue
		}
		for i := range 6 {
			g, l := step(f, seed*6+i)
			f, notes = g, append(notes, l...)
		}
		notes = append(notes, sample.Gossip(f, seed, 3*(seed%7))...)
		switch seed % 15 {
		case 0, 5:
			f.Most += seed%3 - 1
		case 7:
			f = sample.Copy(f)
			f.Nodes[seed%len(f.Nodes)].Doc = seed % 29
		}
		want := tellByWords(w, f, notes)
		check(t, x.what, tell(w, f, notes...), want)
		counts[strconv.Itoa(int(want.err))]++
		for n, todos := range want.w.Line.Todos {
			for _, x := range todos[min(len(todos), lengths(w, n)):] {
				kinds[x.Kind]++
			}
		}
	}
	if len(counts) != 2 || counts["0"] < 500 || counts["1"] < 500 || len(kinds) != 7 || min(kinds[1], kinds[2], kinds[3], kinds[4], kinds[5], kinds[6], kinds[9]) < 20 {
		t.Errorf("too little was told: %v, %v", counts, kinds)
	}
}

// lengths answers how much is to be done to n in w.
func lengths(w api.World, n int) int {
	if n >= len(w.Line.Todos) {
		return 0
	}
	return len(w.Line.Todos[n])
}

// P17.5: a world that is right stays so, whatever is enlisted, told or cleared, step by step; an error leaves it as it
// is.
func TestStaysRight(t *testing.T) {
	grown, tasks := 0, 0
	for seed := range 60 {
		w := sample.Realm(seed)
		for i := range 30 {
			pick := seed*30 + i
			f, notes := step(w.Forest, pick)
			v, err := world.Tell(w, f, append(notes, sample.Gossip(f, pick, 3)...))
			if err != api.OK || !world.Right(v) {
				t.Fatalf("%d, %d: told, it is right: %v; the error is %d", seed, i, world.Right(v), err)
			}
			if i%11 == 7 {
				v = world.Clear(v)
			}
			u, err := world.Enlist(v, dues(pick))
			if !world.Right(u) || err != api.OK && !sample.SameWorld(u, v) {
				t.Fatalf("%d, %d: enlisted, it is right: %v; the error is %d", seed, i, world.Right(u), err)
			}
			w = u
		}
		grown, tasks = grown+len(w.Forest.Nodes)-20, tasks+len(w.Tasks)
	}
	if grown < 200 || tasks < 20 {
		t.Errorf("too little was done: %d nodes more, %d tasks", grown, tasks)
	}
}

// P17.3: of a world that was told, nobody who is for forms is told anything more, as long as nothing changes.
func TestToldTwice(t *testing.T) {
	for seed := range 100 {
		w, _ := world.Tell(sample.Realm(seed), sample.Realm(seed).Forest, nil)
		if v, err := world.Tell(w, w.Forest, nil); err != api.OK || !sample.SameWorld(v, w) {
			t.Errorf("%d: told twice, it is another one: %d", seed, err)
		}
	}
}

// P17.2 to P17.4: what is handed in stays as it is, whatever it is, and an answer is the caller's own.
func TestCareful(t *testing.T) {
	for seed, x := range worlds() {
		what, w := x.what, x.w
		// Of what is by chance, some is enough.
		if seed%10 > 0 && seed > 200 || len(w.Desk.Waits) > 9 || len(w.Forest.Nodes) > 50 {
			continue
		}
		f, notes := w.Forest, []api.Note(nil)
		if len(f.Nodes) > 0 {
			f, notes = step(f, seed)
			notes = append(notes, sample.Gossip(f, seed, 20)...)
		}
		for call, ask := range map[string]func(w api.World) api.World{
			"Right":       func(w api.World) api.World { world.Right(w); return api.World{} },
			"Rested":      func(w api.World) api.World { world.Rested(w); return api.World{} },
			"Clear":       func(w api.World) api.World { return world.Clear(w) },
			"Enlist":      func(w api.World) api.World { return enlist(w, due(1, 1), due(2, 2), due(1, 3)).w },
			"Enlist none": func(w api.World) api.World { return enlist(w).w },
			"refused":     func(w api.World) api.World { return enlist(w, due(1, 1), due(-1, 2)).w },
			"Tell":        func(w api.World) api.World { return tell(w, f, notes...).w },
			"Tell itself": func(w api.World) api.World { return tell(w, w.Forest).w },
			"New":         func(w api.World) api.World { return newWorld(w.Classes, 9).w },
		} {
			if _, fault := sample.AskWorld(w, ask); fault != "" {
				t.Errorf("%s: %s isn't careful with %s", what, call, fault)
			}
		}
		if _, fault := sample.Ask(f, func(f api.Forest) api.Forest { return tell(w, f, notes...).w.Forest }); fault != "" {
			t.Errorf("%s: Tell isn't careful with its forest: %s", what, fault)
		}
		if !sample.Kept(notes, func(l []api.Note) { tell(w, f, l...) }) || !sample.Kept(dues(seed), func(l []api.Due) { enlist(w, l...) }) {
			t.Errorf("%s: changed what is told, or due", what)
		}
	}
}

// P17.1: who changes what New answers, or its classes, changes nothing else; nor do programs that share memory stay so.
func TestOwnClasses(t *testing.T) {
	ops := sample.Ops(1, 4)
	shared := api.Class{Peek: ops[:2], Make: ops, Hooks: []api.Hook{{Kind: 1, Do: ops[1:]}, {Kind: 2, Do: ops}}}
	for i, classes := range [][]api.Class{sample.Classes(), sample.Guild(3), {shared, shared}} {
		_, _, fault := sample.AskClasses(classes, func(l []api.Class) ([]api.Class, []api.Op) {
			if world.Allowed(l[0]) {
				return newWorld(l, 9).w.Classes, nil
			}
			return nil, nil
		})
		if fault != "" {
			t.Errorf("%d: %s", i, fault)
		}
	}
	w := newWorld([]api.Class{shared, shared}, 9).w
	for what, v := range map[string]api.World{
		"told": tell(w, w.Forest).w, "enlisted": enlist(w, due(0, 1)).w, "cleared": world.Clear(w),
		"refused": enlist(api.World{Classes: []api.Class{shared, shared}}).w,
	} {
		v.Classes[0].Make[1].S = "mine"
		if v.Classes[0].Peek[1].S == "mine" || v.Classes[0].Hooks[1].Do[1].S == "mine" || v.Classes[1].Make[1].S == "mine" || ops[1].S == "mine" {
			t.Errorf("%s: classes share memory", what)
		}
	}
}

// P17.2, P17.3: the greatest worlds, and much that is due; it doesn't take long.
func TestGreatest(t *testing.T) {
	hooks := append(slices.Repeat([]api.Hook{sample.Hook(api.Came, 1, 60)}, 11), sample.Hook(api.Went, 1, 60))
	class := api.Class{Watch: slices.Repeat([]string{"a"}, 12), Hooks: hooks, Peek: sample.Ops(1, 60), Make: sample.Ops(1, 60)}
	for what, f := range sample.Great() {
		w := newWorld(slices.Repeat([]api.Class{class}, 12), api.MaxNodes).w
		w.Desk = sample.Manned()
		w, err := world.Tell(w, f, nil)
		if err != api.OK || !world.Right(w) || len(w.States) != api.MaxNodes {
			t.Fatalf("%s: %d", what, err)
		}
		var notes []api.Note
		for n, e := range f.Nodes {
			if e.Kind == api.Elem {
				w.States[n] = sample.State(api.Custom, 11)
				notes = append(notes, sample.Went(n)...)
			}
		}
		times := 100000 / len(notes)
		notes = slices.Repeat(notes, times)
		want := slices.Repeat([]api.Todo{{Kind: api.Went}}, times)
		w, err = world.Tell(w, f, notes)
		if err != api.OK || len(w.Line.Back) != len(notes) || len(w.Tasks) != 1 || !slices.Equal(w.Line.Todos[notes[0].Node], want) {
			t.Errorf("%s: %d are told, not %d; the error is %d", what, len(w.Line.Back), len(notes), err)
		}
		w, err = world.Enlist(w, slices.Repeat([]api.Due{upgrade(399, 11)}, 100000))
		if err != api.OK || len(w.Line.Todos[399]) != 100000 || len(w.Tasks) != 1 || !world.Right(w) {
			t.Errorf("%s: enlisted %d, the error is %d", what, len(w.Line.Todos[399]), err)
		}
	}
}
