package duty_test

import (
	"math"
	"slices"
	"strconv"
	"strings"
	"testing"

	"instar/able"
	"instar/api"
	"instar/move"
	"instar/owner"
	"instar/sample"
)

// scenes are all that is asked with: forests and desks, right and wrong, each with states and classes.
func scenes() map[string]asked {
	all := map[string]asked{}
	for what, s := range sample.Scenes() {
		all[what] = ask(s)
	}
	for seed := range 600 {
		all["shift "+strconv.Itoa(seed)] = ask(sample.Shift(seed))
	}
	return all
}

// P15.1, P15.2, P15.3: all kinds of forests, desks, states and classes, against the chapter's words.
func TestWords(t *testing.T) {
	kinds := map[int]int{}
	count := func(l []api.Due) {
		for _, due := range l {
			kinds[due.Todo.Kind]++
		}
	}
	for what, a := range scenes() {
		wantStates, want := a.toldByWords()
		if now, l := a.told(); !slices.Equal(l, want) || !slices.Equal(now, wantStates) {
			t.Errorf("%s: told %v, not %v; the states are %v, not %v", what, l, want, now, wantStates)
		}
		count(want)
		for _, n := range append(sample.Some(a.Forest), sample.WrongNumbers(a.Forest)...) {
			want := a.resetByWords(n)
			if l := a.reset(n); !slices.Equal(l, want) {
				t.Errorf("%s: reset of %d: %v, not %v", what, n, l, want)
			}
			count(want)
			want = a.restoreByWords(n, what)
			if l := a.restore(n, what); !slices.Equal(l, want) {
				t.Errorf("%s: %d restored: %v, not %v", what, n, l, want)
			}
			count(want)
		}
	}
	if len(kinds) != 4 || kinds[api.Owned] < 200 || kinds[api.Barred] < 100 || kinds[api.Cleared] < 50 || kinds[api.Restored] < 200 {
		t.Errorf("too little was told: %v", kinds)
	}
}

// P15.4: who was told is told nothing the second time, and no state goes on then; and of each form's element the
// state says whose it is, and whether it is barred.
func TestTwice(t *testing.T) {
	for what, a := range scenes() {
		now, _ := a.told()
		a.States = now
		checkTold(t, what, a, nil)
		for n, s := range now {
			if _, ok := a.formClass(n); a.right && ok && (s.Owner != owner.Of(a.Forest, n) || s.Barred != able.Barred(a.Forest, n)) {
				t.Errorf("%s: the state of %d is %v", what, n, s)
			}
		}
	}
}

// P15.4: told after each step that changes the forest, each element hears step by step how it came to what is: each
// From is the To that was told last, each On is another one than the one that was told last.
func TestSteps(t *testing.T) {
	steps := 0
	for seed := range 150 {
		a := stage(sample.Bureau(seed))
		a.States, _ = a.told()
		heard := slices.Clone(a.States)
		for step := range 20 {
			a.Forest = change(a.Forest, seed*20+step)
			var l []api.Due
			a.States, l = a.told()
			steps += len(l)
			for _, due := range l {
				h, todo := &heard[due.Node], due.Todo
				if todo.Kind == api.Owned && (todo.From != h.Owner || todo.To == h.Owner) || todo.Kind == api.Barred && todo.On == h.Barred {
					t.Errorf("%d, %d: %v is told to whom %v was told", seed, step, due, *h)
				}
				if todo.Kind == api.Owned {
					h.Owner = todo.To
				} else {
					h.Barred = todo.On
				}
			}
			if !slices.Equal(heard, a.States) {
				t.Errorf("%d, %d: they heard that it is %v, but it is %v", seed, step, heard, a.States)
			}
		}
	}
	if steps < 300 {
		t.Errorf("only %d were told", steps)
	}
}

// change answers f after a step that this number picks: an Elem put elsewhere, taken out, or barred or not any more.
func change(f api.Forest, pick int) api.Forest {
	n, to := 1+pick*7%(len(f.Nodes)-1), pick*11%len(f.Nodes)
	g, _, err := f, []api.Note(nil), api.OK
	switch pick % 4 {
	case 0:
		g, _, err = move.Remove(f, n)
	case 1:
		g, _, err = move.Toggle(f, n, "disabled", 0)
	default:
		g, _, err = move.Insert(f, n, to, api.None)
	}
	if err != api.OK {
		return f
	}
	return g
}

// P15.1: who else is in which state, and what isn't asked of, changes nothing of what each one is told.
func TestOthers(t *testing.T) {
	for seed := range 100 {
		a := ask(sample.Shift(seed))
		_, l := a.told()
		for n := range a.Forest.Nodes {
			other := ask(a.With(func(s *sample.Scene) {
				s.States = sample.Moods(a.Forest, seed+1)
				s.States[n] = a.States[n]
				s.Desk.Waits, s.Desk.Next, s.Desk.Busy = nil, 99, !s.Desk.Busy
				for i := range s.Classes {
					s.Classes[i].Watch, s.Classes[i].Make = []string{"a"}, sample.Ops(1, 3)
				}
			}))
			of := func(l []api.Due) []api.Due {
				return slices.DeleteFunc(slices.Clone(l), func(due api.Due) bool { return due.Node != n })
			}
			if _, m := other.told(); !slices.Equal(of(m), of(l)) {
				t.Errorf("%d: %d is told %v, not %v", seed, n, of(m), of(l))
			}
		}
	}
}

// P15.1, P15.2, P15.3: what is handed in stays as it is, whatever it is, and an answer is the caller's own: of Told
// the states, too, even where all of them are as they were.
func TestCareful(t *testing.T) {
	for what, a := range scenes() {
		if len(a.Desk.Waits) >= 10 {
			continue
		}
		if touched := a.Touched(func(s sample.Scene) {
			b := ask(s)
			now, told := b.told()
			for i := range now[:cap(now)] {
				now[:cap(now)][i] = api.State{Phase: 77}
			}
			for _, l := range [][]api.Due{told, b.reset(1), b.reset(2), b.restore(1, "s"), b.restore(3, "s")} {
				clear(l[:cap(l)])
			}
		}); touched != "" {
			t.Errorf("%s: changed %s", what, touched)
		}
	}
}

// P15.1, P15.2, P15.3: who changes an answer changes no other one.
func TestOwn(t *testing.T) {
	a := stage(sample.Rooted(`<form><x-a disabled=""></x-a><x-d></x-d></form>`))
	for range 2 {
		now, l := a.told()
		if !slices.Equal(l, []api.Due{owned(2, -1, 1), barred(2, true), owned(3, -1, 1)}) || now[2].Owner != 1 {
			t.Errorf("told %v; the states are %v", l, now)
		}
		reset, restore := a.reset(1), a.restore(2, "s")
		if !slices.Equal(reset, []api.Due{cleared(2), cleared(3)}) || !slices.Equal(restore, []api.Due{restored(2, "s")}) {
			t.Errorf("reset: %v, restored: %v", reset, restore)
		}
		for _, l := range [][]api.Due{l, reset, restore} {
			clear(l[:cap(l)])
		}
		clear(now[:cap(now)])
	}
}

// P15.1, P15.2, P15.3: the greatest forests, on the greatest desk, with many classes that hear of much.
func TestGreatest(t *testing.T) {
	hooks := append(slices.Repeat([]api.Hook{sample.Hook(api.Came, 1, 60)}, 11), api.Hook{Kind: api.Owned}, api.Hook{Kind: api.Barred}, api.Hook{Kind: api.Cleared}, api.Hook{Kind: api.Restored})
	wide := sample.Wide(api.MaxNodes)
	sample.Hang(wide, 0, 1)
	for what, f := range map[string]api.Forest{"deepest": sample.Chain(api.MaxNodes, false), "widest": wide, "deepest shadows": sample.Chain(api.MaxNodes, true)} {
		f.Nodes[1].Name, f.Nodes[1].Attrs = "form", []api.Attr{{Name: "id", Value: "f"}}
		var want, reset []api.Due
		for n := range f.Nodes {
			if e := &f.Nodes[n]; n > 1 && e.Kind == api.Elem {
				e.Attrs = []api.Attr{{Name: "a", Value: strings.Repeat("v", api.MaxValue)}, {Name: "form", Value: "f"}, {Name: "disabled"}}
				if what != "deepest shadows" {
					want = append(want, owned(n, -1, 1))
				}
				want = append(want, barred(n, true))
			}
		}
		a := ask(sample.Scene{Forest: f, States: sample.States(len(f.Nodes), sample.State(api.Custom, 7)), Desk: sample.Manned(), Classes: slices.Repeat([]api.Class{{Form: true, Hooks: hooks}}, 12)})
		now, l := a.told()
		if len(want) < 199 || !slices.Equal(l, want) {
			t.Errorf("%s: %d are told, not %d", what, len(l), len(want))
		}
		for _, n := range owner.Members(f, 1) {
			reset = append(reset, cleared(n))
		}
		if l := a.reset(1); len(reset) < 199 && what != "deepest shadows" || !slices.Equal(l, reset) {
			t.Errorf("%s: reset of %d, not %d", what, len(l), len(reset))
		}
		last := len(f.Nodes) - 1
		for f.Nodes[last].Kind != api.Elem {
			last--
		}
		if l := a.restore(last, "s"); !slices.Equal(l, []api.Due{restored(last, "s")}) {
			t.Errorf("%s: restored: %v", what, l)
		}
		a.States = now
		checkTold(t, what, a, nil)
	}
}

// P15.1, P15.2: classes of which there are more than may be, and hooks, too, are asked as others are.
func TestMany(t *testing.T) {
	a := stage(sample.Rooted(`<form><x-a></x-a></form>`))
	a.Classes = slices.Repeat([]api.Class{{Form: true, Hooks: append(slices.Repeat(hooks(math.MaxInt, 0, -1), 1000), hooks(api.Cleared, api.Owned)...)}}, 20)
	checkTold(t, "many", a, map[int]api.State{2: {Phase: api.Custom, Owner: 1}}, owned(2, -1, 1))
	if l := a.reset(1); !slices.Equal(l, []api.Due{cleared(2)}) {
		t.Errorf("reset: %v", l)
	}
	if l := a.restore(2, "s"); len(l) != 0 {
		t.Errorf("restored: %v", l)
	}
}
