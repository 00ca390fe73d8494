package watch_test

import (
	"slices"
	"strconv"
	"strings"
	"testing"

	"instar/api"
	"instar/sample"
	"instar/watch"
)

// kinds are those of calls, and beside them.
func kinds() []int {
	return []int{-1, 0, 1, 2, 3, 4, 5, 6, 7, 8, 9, 10, 77, sample.Least, sample.Greatest}
}

// P12.1: of each class the kinds of which it hears, and its programs for them: the first one's, if there are two,
// even where that is empty.
func TestHears(t *testing.T) {
	odd := api.Class{Hooks: []api.Hook{sample.Hook(0, 1, 1), sample.Hook(77, 2, 1), sample.Hook(-1, 3, 1), {Kind: api.Went}, sample.Hook(api.Went, 4, 2)}}
	for i, heard := range []map[int][]api.Op{
		{api.Came: sample.Ops(1, 3), api.Changed: sample.Ops(4, 1)},
		{1: sample.Ops(1, 2), 2: sample.Ops(2, 2), 3: sample.Ops(3, 2), 5: sample.Ops(5, 2), 6: sample.Ops(6, 2), 7: sample.Ops(7, 2), 8: sample.Ops(8, 2)},
		{1: nil, 2: nil, 3: nil, 4: nil, 5: nil, 6: nil, 7: nil, 8: nil},
		{api.Changed: sample.Ops(9, 2)},
		{},
		{0: sample.Ops(1, 1), 77: sample.Ops(2, 1), -1: sample.Ops(3, 1), api.Went: nil},
	} {
		c := append(sample.Classes(), odd)[i]
		for _, kind := range kinds() {
			do, hears := heard[kind]
			if watch.Hears(c, kind) != hears {
				t.Errorf("%d: Hears(%d) isn't %v", i, kind, hears)
			}
			if got := watch.Program(c, kind); !slices.Equal(got, do) {
				t.Errorf("%d: Program(%d) = %v, not %v", i, kind, got, do)
			}
		}
	}
}

// P12.1: just those attributes that stand in Watch, as they are written there, and of nobody who doesn't hear of
// Changed.
func TestWatches(t *testing.T) {
	long := strings.Repeat("a", 1<<16)
	heard := []api.Hook{{Kind: api.Went}, {Kind: api.Changed}}
	for _, c := range []struct {
		watch []string
		asked map[string]bool
	}{
		{nil, map[string]bool{"": false, "a": false}},
		{[]string{"a", "b"}, map[string]bool{"a": true, "b": true, "": false, "c": false, "A": false, " a": false, "a ": false, "ab": false, "a\x00": false}},
		{[]string{"A", "title", "A"}, map[string]bool{"A": true, "a": false, "title": true, "Title": false, "TITLE": false, "tit": false}},
		{[]string{"", "\xff", long}, map[string]bool{"": true, "\xff": true, "\xfe": false, long: true, long + "a": false, long[1:]: false}},
	} {
		for s, want := range c.asked {
			if watch.Watches(api.Class{Watch: c.watch, Hooks: heard}, s) != want {
				t.Errorf("of %.99q: Watches(%.99q) isn't %v", c.watch, s, want)
			}
			if watch.Watches(api.Class{Watch: c.watch, Hooks: heard[:1]}, s) {
				t.Errorf("of %.99q, that doesn't hear: Watches(%.99q)", c.watch, s)
			}
		}
	}
	for i, want := range []string{"a b", "", "a title", "", ""} {
		for _, s := range []string{"a", "b", "c", "title"} {
			if got := watch.Watches(sample.Classes()[i], s); got != slices.Contains(strings.Fields(want), s) {
				t.Errorf("%d: Watches(%q) = %v", i, s, got)
			}
		}
	}
}

// checkClass checks that of the state s, on d, it is the class at want, or none.
func checkClass(t *testing.T, what string, s api.State, d api.Desk, classes []api.Class, want int) {
	t.Helper()
	var c api.Class
	if want != api.None {
		c = classes[want]
	}
	if got, ok := watch.Class(s, d, classes); ok != (want != api.None) || !sample.SameClass(got, c) {
		t.Errorf("%s, of %v: Class = %v, %v, not the one at %d", what, s, got, ok, want)
	}
}

// P12.1: a state's class is that of its definition, in whatever phase; none, where its Def is no place of a
// definition, or that one's Class no place of a class.
func TestClass(t *testing.T) {
	d := api.Desk{}
	for _, class := range []int{2, 0, 4, 5, 11} {
		x := "x-" + string(rune('a'+class))
		d.Defs = append(d.Defs, api.Def{Name: x, Local: x, Class: class})
	}
	for phase := -1; phase <= 5; phase++ {
		for def, want := range map[int]int{0: 2, 1: 0, 2: 4, 3: -1, 4: -1, 5: -1, -1: -1, -2: -1, sample.Least: -1, sample.Greatest: -1} {
			s := sample.State(phase, def)
			checkClass(t, "five classes", s, d, sample.Classes(), want)
			checkClass(t, "no class", s, d, nil, -1)
			checkClass(t, "no definition", s, api.Desk{}, sample.Classes(), -1)
			s.Owner, s.Barred = 7, true
			if want == 4 {
				want = -1
			}
			checkClass(t, "four classes", s, d, sample.Classes()[:4], want)
		}
	}
}

// P12.1: so it is of what is no desk, too.
func TestClassOfWrong(t *testing.T) {
	for what, d := range sample.WrongDesks() {
		for def := -1; def <= len(d.Defs); def++ {
			want := api.None
			if def >= 0 && def < len(d.Defs) && d.Defs[def].Class >= 0 && d.Defs[def].Class < 5 {
				want = d.Defs[def].Class
			}
			checkClass(t, what, sample.State(api.Custom, def), d, sample.Classes(), want)
		}
	}
	classes := make([]api.Class, 20)
	classes[15].Form = true
	d := api.Desk{Defs: []api.Def{{Class: 3}, {Class: 15}, {Class: 3}, {Class: sample.Least}, {Class: sample.Greatest}}}
	for def, want := range []int{3, 15, 3, -1, -1} {
		checkClass(t, "many classes", sample.State(api.Plain, def), d, classes, want)
	}
}

// all is a note of this kind, and of the node n, with all of its fields filled.
func all(kind, n int, name string) api.Note {
	return api.Note{Kind: kind, Node: n, Name: name, Had: true, Has: true, Old: "o", New: "n", From: 7, To: 8}
}

// done is the call that tells what all tells.
func done(kind int, name string) api.Todo {
	return api.Todo{Kind: kind, Name: name, Had: true, Has: true, Old: "o", New: "n", From: 7, To: 8}
}

// P12.2, P12.4: who is Custom is called for what its class hears of, with all that the note tells; who is in
// another phase isn't.
func TestDueCalls(t *testing.T) {
	f, d := sample.Forest(9, sample.Elem("b")), sample.Named()
	for class, c := range sample.Classes() {
		for _, kind := range kinds() {
			for _, s := range []string{"", "a", "b", "title", "A"} {
				hears := kind >= api.Came && kind <= api.Changed && watch.Hears(c, kind) && (kind != api.Changed || watch.Watches(c, s))
				for phase := -1; phase <= 5; phase++ {
					var want []api.Due
					if phase == api.Custom && hears {
						want = []api.Due{{Node: 1, Todo: done(kind, s)}}
					}
					got := watch.Due(f, sample.States(2, sample.State(phase, class)), d, sample.Classes(), []api.Note{all(kind, 1, s)})
					if !slices.Equal(got, want) {
						t.Errorf("class %d, phase %d: of %d, %q: %v, not %v", class, phase, kind, s, got, want)
					}
				}
			}
		}
	}
}

// P12.2: each field of a note is told by itself, as it is: what isn't there isn't told.
func TestDueFields(t *testing.T) {
	f, d := sample.Forest(9, sample.Elem("b")), sample.Named()
	for kind := api.Came; kind <= api.Changed; kind++ {
		for i, note := range []api.Note{{Name: "a"}, {Had: true}, {Has: true}, {Old: "\xff"}, {New: "\x00"}, {From: -1}, {To: sample.Greatest}, {}} {
			note.Kind, note.Node = kind, 1
			classes := slices.Repeat([]api.Class{{Watch: []string{"", "a"}, Hooks: []api.Hook{{Kind: kind}}}}, 3)
			want := api.Due{Node: 1, Todo: api.Todo{Kind: kind, Name: note.Name, Had: note.Had, Has: note.Has, Old: note.Old, New: note.New, From: note.From, To: note.To}}
			s := api.State{Phase: api.Custom, Def: 2, Owner: 1, Barred: true}
			if got := watch.Due(f, sample.States(2, s), d, classes, []api.Note{note}); !slices.Equal(got, []api.Due{want}) {
				t.Errorf("%d: %v asks for %v", i, note, got)
			}
		}
	}
}

// P12.2, P12.4: who is Open is to be upgraded when it comes, by its fate, whatever its state's Def is, and
// whatever else the note tells; not, when anything else befalls it, or where it has no fate.
func TestDueUpgrades(t *testing.T) {
	f, d := sample.Clan(), sample.Desk()
	fates := map[int]int{1: 1, 2: 0, 5: 0, 7: 0, 13: 1, 18: 0, 19: 1, 20: 0, 22: 0}
	for n := range f.Nodes {
		for _, kind := range kinds() {
			for _, def := range []int{api.None, 0, 1, 7} {
				for phase := -1; phase <= 5; phase++ {
					var want []api.Due
					if at, has := fates[n]; has && phase == api.Open && kind == api.Came {
						want = []api.Due{{Node: n, Todo: api.Todo{Kind: api.Upgrade, Def: at}}}
					}
					states := sample.States(len(f.Nodes), sample.State(phase, def))
					if got := watch.Due(f, states, d, nil, []api.Note{all(kind, n, "a")}); !slices.Equal(got, want) {
						t.Errorf("%d, phase %d: of %d: %v, not %v", n, phase, kind, got, want)
					}
				}
			}
		}
	}
}

// P12.2: notes are gone through in order, each for itself, however often one node is told of; each node by its
// own state.
func TestDueOrder(t *testing.T) {
	f, d := sample.Forest(9, sample.Elem("x-a"), sample.Elem("x-b"), sample.Text("t"), sample.Elem("x-c")), sample.Named()
	states := []api.State{sample.State(api.Plain, -1), sample.State(api.Custom, 0), sample.State(api.Open, 4), sample.State(api.Custom, 2), sample.State(api.Custom, 2)}
	notes := []api.Note{
		all(api.Came, 4, ""), all(api.Came, 2, ""), all(api.Came, 1, ""), all(api.Went, 1, ""), all(api.Changed, 1, "b"), all(api.Came, 2, ""),
		all(api.Came, 3, ""), all(api.Came, 0, ""), all(api.Came, -1, ""), all(api.Came, 5, ""), all(api.Changed, 4, "b"), all(api.Changed, 4, "a"), all(api.Came, 1, ""),
	}
	want := []api.Due{
		{Node: 4, Todo: done(api.Came, "")}, {Node: 2, Todo: api.Todo{Kind: api.Upgrade, Def: 1}}, {Node: 1, Todo: done(api.Came, "")}, {Node: 1, Todo: done(api.Changed, "b")},
		{Node: 2, Todo: api.Todo{Kind: api.Upgrade, Def: 1}}, {Node: 4, Todo: done(api.Changed, "a")}, {Node: 1, Todo: done(api.Came, "")},
	}
	if got := watch.Due(f, states, d, sample.Classes(), notes); !slices.Equal(got, want) {
		t.Errorf("%v, not %v", got, want)
	}
	if got := watch.Due(f, states, d, sample.Classes(), nil); len(got) != 0 {
		t.Errorf("of no notes: %v", got)
	}
}

// P12.3: what it has, in its own order, as far as it is watched; then that it is connected.
func TestFirst(t *testing.T) {
	e := sample.Elem("b")
	e.Attrs = []api.Attr{{Name: "title", Value: "t"}, {Name: "c", Value: "3"}, {Name: "a"}, {Name: "b", Value: "\xff"}}
	alone, there := sample.Forest(9, e), sample.Forest(9, e)
	sample.Hang(there, 0, 1)
	changed := func(name, value string) api.Due {
		return api.Due{Node: 1, Todo: api.Todo{Kind: api.Changed, Name: name, New: value, Has: true}}
	}
	title, a, b := changed("title", "t"), changed("a", ""), changed("b", "\xff")
	for class, want := range [][]api.Due{{a, b}, {}, {title, a}, {}, {}} {
		for phase := -1; phase <= 5; phase++ {
			states := sample.States(2, api.State{Phase: phase, Def: class, Owner: 3, Barred: true})
			if got := watch.First(alone, states, sample.Named(), sample.Classes(), 1); !slices.Equal(got, want) {
				t.Errorf("class %d, alone: %v, not %v", class, got, want)
			}
			here := slices.Clone(want)
			if class < 3 {
				here = append(here, api.Due{Node: 1, Todo: api.Todo{Kind: api.Came}})
			}
			if got := watch.First(there, states, sample.Named(), sample.Classes(), 1); !slices.Equal(got, here) {
				t.Errorf("class %d, connected: %v, not %v", class, got, here)
			}
		}
	}
	for _, def := range []int{api.None, -2, 5, sample.Least, sample.Greatest} {
		if got := watch.First(there, sample.States(2, sample.State(api.Half, def)), sample.Named(), sample.Classes(), 1); len(got) != 0 {
			t.Errorf("of no definition, %d: %v", def, got)
		}
	}
	if got := watch.First(there, sample.States(2, sample.State(api.Half, 2)), sample.Named(), sample.Classes()[:2], 1); len(got) != 0 {
		t.Errorf("of no class: %v", got)
	}
}

// P12.3: it is connected where its top is a Doc: in whatever document, in shadows, too; not in a Frag, nor alone.
func TestFirstConnected(t *testing.T) {
	f := sample.Clan()
	states := sample.States(len(f.Nodes), sample.State(api.Half, 2))
	for n, e := range f.Nodes {
		connected := n <= 16 || n == 25 || n == 26
		var want []api.Due
		if e.Kind == api.Elem && connected {
			want = []api.Due{{Node: n, Todo: api.Todo{Kind: api.Came}}}
		}
		if got := watch.First(f, states, sample.Named(), sample.Classes(), n); !slices.Equal(got, want) {
			t.Errorf("of %d: %v, not %v", n, got, want)
		}
	}
}

// checkNothing checks that nothing is told of anybody.
func checkNothing(t *testing.T, what string, f api.Forest, states []api.State, d api.Desk, nodes ...int) {
	t.Helper()
	for _, n := range nodes {
		for kind := api.Came; kind <= api.Changed; kind++ {
			if l := watch.Due(f, states, d, sample.Classes(), []api.Note{all(kind, n, "a")}); len(l) != 0 {
				t.Errorf("%s: of %d, %d: %v", what, kind, n, l)
			}
		}
		if l := watch.First(f, states, d, sample.Classes(), n); len(l) != 0 {
			t.Errorf("%s: at first of %d: %v", what, n, l)
		}
	}
}

// P12.2, P12.3: of a node that isn't there, or is no Elem; of what is no forest; of more states or fewer.
func TestNothing(t *testing.T) {
	custom, open := sample.State(api.Custom, 2), sample.State(api.Open, 2)
	for what, f := range sample.Right() {
		checkNothing(t, what, f, sample.States(len(f.Nodes), custom), sample.Named(), sample.WrongNumbers(f)...)
		checkNothing(t, what, f, sample.States(len(f.Nodes), open), sample.Named(), sample.WrongNumbers(f)...)
		for n, e := range f.Nodes[:min(len(f.Nodes), 30)] {
			if e.Kind != api.Elem {
				checkNothing(t, what, f, sample.States(len(f.Nodes), custom), sample.Named(), n)
			}
			for _, count := range []int{0, len(f.Nodes) - 1, len(f.Nodes) + 1} {
				checkNothing(t, what+", "+strconv.Itoa(count)+" states", f, sample.States(count, custom), sample.Named(), n)
				checkNothing(t, what+", "+strconv.Itoa(count)+" states", f, sample.States(count, open), sample.Named(), n)
			}
		}
	}
	for what, f := range sample.Wrong() {
		for n := -1; n <= len(f.Nodes); n++ {
			checkNothing(t, what, f, sample.States(len(f.Nodes), custom), sample.Named(), n)
			checkNothing(t, what, f, sample.States(len(f.Nodes), open), sample.Named(), n)
		}
	}
}

// P12.2, P12.3: of what is no desk: also where only those who wait are wrong.
func TestNothingOfWrongDesks(t *testing.T) {
	f := sample.Clan()
	nodes := make([]int, len(f.Nodes))
	for n := range nodes {
		nodes[n] = n
	}
	wrong := sample.WrongDesks()
	late := sample.Manned()
	late.Defs[2] = api.Def{Name: "x-a", Local: "x-a", Class: 9}
	late.Waits[99999].Ticket = 99998
	wrong["the last of all who wait"] = late
	for what, d := range wrong {
		for _, phase := range []int{api.Open, api.Custom} {
			checkNothing(t, what, f, sample.States(len(f.Nodes), sample.State(phase, 0)), d, nodes...)
		}
	}
}

// The chapter's example.
func TestExample(t *testing.T) {
	c := api.Class{Watch: []string{"a"}, Hooks: []api.Hook{{Kind: api.Changed}}}
	f, states := sample.Forest(9, sample.Elem("x-a")), sample.States(2, sample.State(api.Custom, 0))
	notes := []api.Note{{Kind: api.Changed, Node: 1, Name: "b", Has: true, New: "2"}, {Kind: api.Changed, Node: 1, Name: "a", Has: true, New: "1"}}
	want := []api.Due{{Node: 1, Todo: api.Todo{Kind: api.Changed, Name: "a", Has: true, New: "1"}}}
	if l := watch.Due(f, states, sample.Named(), []api.Class{c}, notes); !slices.Equal(l, want) || !watch.Watches(c, "a") || watch.Watches(c, "b") {
		t.Errorf("told of %v, not of %v", l, want)
	}
}
