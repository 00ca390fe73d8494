package watch_test

import (
	"slices"
	"strconv"
	"testing"

	"instar/api"
	"instar/fresh"
	"instar/sample"
	"instar/watch"
)

// scenes are all that is asked with: forests and desks, right and wrong, each with states and classes.
func scenes() map[string]asked {
	all := map[string]asked{}
	for what, s := range sample.Scenes() {
		all[what] = ask(s)
	}
	for seed := range 400 {
		all["party "+strconv.Itoa(seed)] = ask(sample.Party(seed))
	}
	return all
}

// due and first ask the program.
func (a asked) due(notes []api.Note) []api.Due {
	return watch.Due(a.Forest, a.States, a.Desk, a.Classes, notes)
}
func (a asked) first(n int) []api.Due { return watch.First(a.Forest, a.States, a.Desk, a.Classes, n) }

// numbers are those of some nodes of f, and of none.
func numbers(f api.Forest) []int {
	return append(sample.WrongNumbers(f), sample.Some(f)...)
}

// P12.2, P12.3: all kinds of forests, desks, states, classes and notes, against the chapter's words.
func TestWords(t *testing.T) {
	told, kinds := 0, map[int]int{}
	for what, a := range scenes() {
		for seed := range 3 {
			if len(a.Forest.Nodes) == 0 {
				break
			}
			notes := sample.Gossip(a.Forest, seed, 400)
			want := a.dueByWords(notes)
			if got := a.due(notes); !slices.Equal(got, want) {
				t.Errorf("%s: %d notes ask for %.500v, not for %.500v", what, len(notes), got, want)
			}
			for _, due := range want {
				kinds[due.Todo.Kind]++
			}
		}
		for _, n := range numbers(a.Forest) {
			want := a.firstByWords(n)
			if got := a.first(n); !slices.Equal(got, want) {
				t.Errorf("%s: of %d, at first %v, not %v", what, n, got, want)
			}
			told += len(want)
		}
	}
	if len(kinds) != 5 || kinds[1] < 1000 || kinds[2] < 1000 || kinds[3] < 1000 || kinds[4] < 200 || kinds[9] < 1000 || told < 300 {
		t.Errorf("too little was told: %v, and %d at first", kinds, told)
	}
}

// P12.1: chance classes against the chapter's words.
func TestClassWords(t *testing.T) {
	found := 0
	for seed := range 300 {
		classes, d := sample.Guild(seed)[seed%3:], sample.Office(seed)
		for _, c := range classes {
			for _, kind := range kinds() {
				if watch.Hears(c, kind) != hearsByWords(c, kind) || !slices.Equal(watch.Program(c, kind), programByWords(c, kind)) {
					t.Errorf("%d: of %d: %v, %v", seed, kind, watch.Hears(c, kind), watch.Program(c, kind))
				}
			}
			for _, s := range []string{"", "a", "b", "c", "title", "A", "x"} {
				if watch.Watches(c, s) != watchesByWords(c, s) {
					t.Errorf("%d: Watches(%q) = %v", seed, s, watch.Watches(c, s))
				}
			}
		}
		for _, s := range sample.Moods(sample.Grove(), seed) {
			want, has := classByWords(s, d, classes)
			if c, ok := watch.Class(s, d, classes); ok != has || !sample.SameClass(c, want) {
				t.Errorf("%d: the class of %v is %v, %v", seed, s, c, ok)
			}
			if has {
				found++
			}
		}
	}
	if found < 500 {
		t.Errorf("only %d have a class", found)
	}
}

// P12.4: only who is Open is to be upgraded, and only who is Custom is called; nothing else is ever to be done.
func TestWho(t *testing.T) {
	upgrades, calls := 0, 0
	for what, a := range scenes() {
		if len(a.Forest.Nodes) == 0 {
			continue
		}
		for _, due := range a.due(sample.Gossip(a.Forest, 7, 400)) {
			phase, kind := a.States[due.Node].Phase, due.Todo.Kind
			switch {
			case phase == api.Open && kind == api.Upgrade:
				upgrades++
			case phase == api.Custom && kind >= api.Came && kind <= api.Changed:
				calls++
			default:
				t.Errorf("%s: in phase %d is to be done %v", what, phase, due)
			}
		}
	}
	if upgrades < 200 || calls < 1000 {
		t.Errorf("only %d upgrades, %d calls", upgrades, calls)
	}
}

// P12.2: each note is for itself: of notes one behind the other is asked for what each by itself asks for.
func TestEach(t *testing.T) {
	for seed := range 50 {
		a := ask(sample.Party(seed))
		notes := sample.Gossip(a.Forest, seed, 60)
		var each []api.Due
		for _, note := range notes {
			each = append(each, a.due([]api.Note{note})...)
		}
		if got := a.due(notes); !slices.Equal(got, each) {
			t.Errorf("%d: all together %v, each by itself %v", seed, got, each)
		}
	}
}

// P12.2, P12.3: who else is in which state, what isn't told of, and who waits, changes nothing.
func TestOthers(t *testing.T) {
	for seed := range 100 {
		a := ask(sample.Party(seed))
		for n := range a.Forest.Nodes {
			notes := slices.DeleteFunc(sample.Gossip(a.Forest, seed, 300), func(note api.Note) bool { return note.Node != n })
			other := ask(a.With(func(s *sample.Scene) {
				s.States = sample.Moods(a.Forest, seed+1)
				s.States[n] = a.States[n]
				s.States[n].Owner, s.States[n].Barred = 77, !s.States[n].Barred
				s.Desk.Waits, s.Desk.Next, s.Desk.Busy = nil, 99, !s.Desk.Busy
				for i := range s.Classes {
					s.Classes[i].Form, s.Classes[i].Make = !s.Classes[i].Form, sample.Ops(1, 3)
				}
			}))
			if got, want := other.due(notes), a.due(notes); !slices.Equal(got, want) {
				t.Errorf("%d: of %d: %v, not %v", seed, n, got, want)
			}
			if got, want := other.first(n), a.first(n); !slices.Equal(got, want) {
				t.Errorf("%d: of %d, at first: %v, not %v", seed, n, got, want)
			}
		}
	}
}

// P12.2, P12.3: what is handed in stays as it is, whatever it is, and an answer is the caller's own.
func TestCareful(t *testing.T) {
	for what, a := range scenes() {
		if len(a.Desk.Waits) >= 10 || len(a.Forest.Nodes) == 0 {
			continue
		}
		notes := sample.Gossip(a.Forest, 5, 100)
		if touched := a.Touched(func(s sample.Scene) {
			b := ask(s)
			for _, l := range [][]api.Due{b.due(notes), b.first(1), b.first(2)} {
				clear(l[:cap(l)])
			}
		}); touched != "" {
			t.Errorf("%s: changed %s", what, touched)
		}
		if !sample.Kept(notes, func(l []api.Note) { a.due(l) }) {
			t.Errorf("%s: changed the notes", what)
		}
	}
	f := sample.Clan()
	a := ask(sample.Scene{Forest: f, States: sample.States(len(f.Nodes), sample.State(api.Custom, 2)), Desk: sample.Named(), Classes: sample.Classes()})
	notes := sample.Gossip(f, 3, 300)
	one, want := a.due(notes), a.dueByWords(notes)
	clear(one[:cap(one)])
	if got := a.due(notes); len(want) < 50 || !slices.Equal(got, want) {
		t.Errorf("an answer shares memory with another one: %v, not %v", got, want)
	}
}

// P12.1: a class, and a program, are the caller's own: who changes them changes neither what was handed in, nor
// another answer; where programs of what was handed in share memory, those of an answer don't.
func TestOwnClass(t *testing.T) {
	d := sample.Named()
	for seed := range 50 {
		for i, guild := range [][]api.Class{sample.Classes(), sample.Guild(seed)} {
			for def := -1; def <= 5; def++ {
				s := sample.State(api.Custom, def)
				_, _, fault := sample.AskClasses(guild, func(l []api.Class) ([]api.Class, []api.Op) {
					if c, ok := watch.Class(s, d, l); ok {
						return []api.Class{c}, watch.Program(c, 1+seed%5)
					}
					return nil, nil
				})
				if fault != "" {
					t.Errorf("%d, %d: the class of %d: %s", seed, i, def, fault)
				}
			}
			for kind := range 10 {
				if _, _, fault := sample.AskClasses(guild, func(l []api.Class) ([]api.Class, []api.Op) {
					watch.Hears(l[0], kind)
					watch.Watches(l[0], "a")
					return nil, watch.Program(l[1], kind)
				}); fault != "" {
					t.Errorf("%d, %d: the program of %d: %s", seed, i, kind, fault)
				}
			}
		}
	}
	ops, words := sample.Ops(1, 4), []string{"a", "b"}
	l := []api.Class{{Watch: words, Peek: ops[:2], Make: ops, Hooks: []api.Hook{{Kind: 1, Do: ops[1:]}, {Kind: 2, Do: ops}}}}
	c, _ := watch.Class(sample.State(api.Plain, 0), d, l)
	if want := fresh.Class(c); !sample.SameClass(c, l[0]) || !sample.SameClass(c, want) {
		t.Errorf("not the class that was meant: %v", c)
	}
	c.Make[1].S, c.Watch[0] = "mine", "mine"
	if c.Peek[1].S == "mine" || c.Hooks[0].Do[0].S == "mine" || c.Hooks[1].Do[1].S == "mine" || ops[1].S == "mine" || words[0] == "mine" {
		t.Errorf("what was handed in, and a class of it, share memory: %v", c)
	}
}

// P12.2, P12.3: the greatest forests, on the greatest desk, and many notes; classes that hear of much.
func TestGreatest(t *testing.T) {
	d := sample.Manned()
	d.Defs[7] = api.Def{Name: "x-e", Local: "x-e", Class: d.Defs[7].Class}
	classes := slices.Repeat([]api.Class{{Watch: slices.Repeat([]string{"b"}, 12), Hooks: slices.Repeat([]api.Hook{{Kind: api.Went}}, 11)}}, 12)
	classes[4].Watch, classes[4].Hooks = append(classes[4].Watch[:11:11], "a"), append(classes[4].Hooks[:11:11], api.Hook{Kind: api.Changed})
	for what, f := range map[string]api.Forest{"deepest": sample.Chain(api.MaxNodes, false), "deepest shadows": sample.Chain(api.MaxNodes, true), "widest": sample.Wide(api.MaxNodes)} {
		var notes []api.Note
		var want []api.Due
		states := sample.States(len(f.Nodes), sample.State(api.Open, api.None))
		for n := range 20 * len(f.Nodes) {
			n %= len(f.Nodes)
			if n%3 == 0 {
				states[n] = sample.State(api.Custom, 7)
			}
			notes = append(notes, api.Note{Kind: api.Came, Node: n}, api.Note{Kind: api.Changed, Node: n, Name: "a"})
			switch e := f.Nodes[n]; {
			case e.Kind == api.Elem && n%3 == 0:
				want = append(want, api.Due{Node: n, Todo: api.Todo{Kind: api.Changed, Name: "a"}})
			case e.Name == "x-e":
				want = append(want, api.Due{Node: n, Todo: api.Todo{Kind: api.Upgrade, Def: 7}})
			}
		}
		if got := watch.Due(f, states, d, classes, notes); len(want) < 3500 || !slices.Equal(got, want) {
			t.Errorf("%s: %d are told, not %d", what, len(got), len(want))
		}
	}
}

// P12.3: an element with as many attributes as may be.
func TestFirstMany(t *testing.T) {
	e := sample.Elem("x-a")
	c := api.Class{Hooks: []api.Hook{{Kind: api.Changed}}}
	var want []api.Due
	for i := range api.MaxAttrs {
		s := "a" + strconv.Itoa((i*7)%api.MaxAttrs)
		e.Attrs = append(e.Attrs, api.Attr{Name: s, Value: strconv.Itoa(i)})
		c.Watch = slices.Concat([]string{s}, c.Watch)
		want = append(want, api.Due{Node: 1, Todo: api.Todo{Kind: api.Changed, Name: s, Has: true, New: strconv.Itoa(i)}})
	}
	f := sample.Forest(9, e)
	if got := watch.First(f, sample.States(2, sample.State(api.Half, 0)), sample.Named(), []api.Class{c}, 1); !slices.Equal(got, want) {
		t.Errorf("%v, not %v", got, want)
	}
}
