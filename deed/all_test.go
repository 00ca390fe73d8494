package deed_test

import (
	"fmt"
	"maps"
	"slices"
	"strings"
	"testing"

	"instar/api"
	"instar/deed"
	"instar/forest"
	"instar/op"
	"instar/sample"
	"instar/shade"
	"instar/state"
	"instar/watch"
	"instar/world"
)

// aimed answers an operation by chance, the same one for each seed, at nodes of w; often at a document, or a form, where
// it is to be one.
func aimed(w api.World, seed int) api.Op {
	many := len(w.Forest.Nodes)
	o, err := op.Aim(sample.RightOp(seed, many), seed*7%many, many)
	if err != api.OK {
		panic("no operation")
	}
	if seed%4 == 0 {
		return o
	}
	switch docOf := func(n int) int { return w.Forest.Nodes[n].Doc }; o.Kind {
	case api.NewOp, api.DraftOp, api.TextOp, api.FragOp:
		o.A = docOf(o.A)
	case api.CopyOp:
		o.C = docOf(o.C)
	case api.TakeOp:
		o.B = docOf(o.B)
	case api.ResetOp:
		o.A = max(0, slices.IndexFunc(w.Forest.Nodes, func(n api.Node) bool { return n.Name == "form" }))
	case api.SwapOp:
		if kids := w.Forest.Nodes[o.B].Kids; len(kids) > 0 {
			o.C = kids[seed%len(kids)]
		}
	}
	return o
}

// tight answers w, sometimes without room for more, or with room for few, or without tickets.
func tight(w api.World, seed int) api.World {
	switch seed % 7 {
	case 0:
		w.Forest = sample.Full(w.Forest)
	case 1:
		w.Forest.Most = min(api.MaxNodes, len(w.Forest.Nodes)+1+seed%3)
	case 2:
		w.Desk.Next = api.MaxTickets
	}
	return w
}

// P18.1, P18.2: all kinds of operations, in all kinds of worlds, against the chapter's words.
func TestWords(t *testing.T) {
	well, errs := make([]int, 29), map[api.Errno]int{}
	for seed := range 12000 {
		w := tight(sample.Realm(seed%331), seed)
		o := aimed(w, seed)
		want := doByWords(w, o)
		check(t, fmt.Sprint(seed, ": ", o), do(w, o), want)
		errs[want.err]++
		if want.err == api.OK {
			well[o.Kind]++
		}
	}
	for kind, times := range well {
		if slices.Contains(needless(), kind) != (times > 0) || times > 0 && times < 30 {
			t.Errorf("the Kind %d went well %d times", kind, times)
		}
	}
	for _, err := range []api.Errno{api.OK, api.ErrArg, api.ErrName, api.ErrTree, api.ErrNone, api.ErrState, api.ErrFull} {
		if errs[err] < 100 {
			t.Errorf("seldom told: %d, %d", err, errs[err])
		}
	}
	if errs[api.ErrAlready] == 0 || errs[api.ErrLong] == 0 {
		t.Errorf("never told: %v", errs)
	}
}

// P18.2: worlds and operations that may be, or may not, with one thing changed, against the chapter's words.
func TestWrongByChance(t *testing.T) {
	wrong := 0
	for seed := range 6000 {
		w, o := sample.Upheaval(seed), sample.RightOp(seed+5, 22)
		switch seed % 5 {
		case 0:
			o.A++
		case 1:
			o.T = strings.Repeat("t", seed%203)
		case 2:
			o.Kind = seed % 31
		case 3:
			w = sample.Realm(seed)
		}
		want := doByWords(w, o)
		if check(t, fmt.Sprint(seed, ": ", o), do(w, o), want); want.err == api.ErrArg {
			wrong++
		}
	}
	if wrong < 1000 || wrong > 5500 {
		t.Errorf("%d of them may not be", wrong)
	}
}

// P18.2: one of each Kind, in worlds at the edges, against the chapter's words.
func TestEdges(t *testing.T) {
	right := sample.RightWorlds()
	for _, what := range slices.Sorted(maps.Keys(right)) {
		for _, text := range append(each(), `reset 0`, `wait "x-q"`, `copy 0 1 0`, `join 0`, `empty 0`, `text 6 "t"`, `out 0`) {
			check(t, what+": "+text, do(right[what], read(text)), doByWords(right[what], read(text)))
		}
	}
}

// calls answers how often each is called for Came, less for Went, of what is to be done in w.
func calls(w api.World) []int {
	l := make([]int, len(w.Line.Todos))
	for n, todos := range w.Line.Todos {
		for _, x := range todos {
			switch x.Kind {
			case api.Came:
				l[n]++
			case api.Went:
				l[n]--
			}
		}
	}
	return l
}

// hearsBoth tells whether n is Custom, by a class that hears of Came and Went.
func hearsBoth(w api.World, n int) bool {
	c, ok := state.Class(w.States[n], w.Desk, w.Classes)
	return ok && w.States[n].Phase == api.Custom && watch.Hears(c, api.Came) && watch.Hears(c, api.Went)
}

func connected(w api.World, n int) int {
	if shade.Connected(w.Forest, n) {
		return 1
	}
	return 0
}

// mature answers w with some of its elements Custom, those whose numbers go by this one.
func mature(w api.World, pick int) api.World {
	w.States = slices.Clone(w.States)
	for n, e := range w.Forest.Nodes {
		if e.Kind == api.Elem && n%3 == pick%3 && len(w.Desk.Defs) > 0 {
			w.States[n].Phase, w.States[n].Def = api.Custom, n%len(w.Desk.Defs)
		}
	}
	return w
}

// homeward answers an operation that puts some element or fragment that isn't connected under some that is; one that
// needs a program, if there aren't both.
func homeward(w api.World, seed int) api.Op {
	var lost, homes []int
	for n, e := range w.Forest.Nodes {
		switch isHome := connected(w, n) == 1; {
		case e.Kind == api.Elem && isHome:
			homes = append(homes, n)
		case !isHome && (e.Kind == api.Elem || e.Kind == api.Frag):
			lost = append(lost, n)
		}
	}
	if len(lost) == 0 || len(homes) == 0 {
		return api.Op{Kind: api.RestOp}
	}
	return api.Op{Kind: api.PutOp, A: lost[seed%len(lost)], B: homes[seed*7%len(homes)], C: api.None}
}

// P18.3: a world stays right, and as it is beside an error, whatever is done, one behind the other; what was to be done
// before stays so; and whoever is Custom and hears of both is called for Came less Went as it is connected then less it
// was ahead.
func TestDays(t *testing.T) {
	came, went, refused := 0, 0, 0
	for seed := range 60 {
		w := sample.Realm(seed)
		for i := range w.Classes {
			w.Classes[i].Hooks = append(w.Classes[i].Hooks[:min(8, len(w.Classes[i].Hooks))], api.Hook{Kind: api.Came}, api.Hook{Kind: api.Went})
		}
		w.Forest.Most = 60
		for i := range 60 {
			v := mature(w, i)
			o := aimed(v, seed*60+i)
			if i%3 == 0 {
				o = homeward(v, seed+i)
			}
			got := do(v, o)
			if !world.Right(v) || !world.Right(got.w) || got.err != api.OK && (!sample.SameWorld(got.w, v) || got.node != api.None) {
				t.Fatalf("%d, %d: %v: it isn't right, or another one: %d", seed, i, o, got.err)
			}
			if got.err != api.OK {
				refused++
			}
			ahead, then := calls(v), calls(got.w)
			for n := range v.States {
				less := connected(got.w, n) - connected(v, n)
				if hearsBoth(v, n) && then[n]-ahead[n] != less {
					t.Errorf("%d, %d: %v: %d is called %d times, not %d", seed, i, o, n, then[n]-ahead[n], less)
				}
				if todos := v.Line.Todos[n]; !slices.Equal(got.w.Line.Todos[n][:len(todos)], todos) {
					t.Errorf("%d, %d: %v: what was to be done to %d isn't, or comes later", seed, i, o, n)
				}
				if hearsBoth(v, n) {
					came, went = came+max(0, less), went+max(0, -less)
				}
			}
			if w = got.w; i%17 == 16 {
				w = world.Clear(w)
			}
		}
	}
	if came < 200 || went < 200 || refused < 300 {
		t.Errorf("too little was done: %d came, %d went; %d were refused", came, went, refused)
	}
}

// P18.2: a node that is made is the new one, or, of a ticket, its number; of all else there is none; nobody goes.
func TestMade(t *testing.T) {
	made := 0
	for seed := range 4000 {
		w := sample.Realm(seed % 97)
		o := aimed(w, seed)
		got, want := do(w, o), api.None
		switch o.Kind {
		case api.DraftOp, api.TextOp, api.FragOp, api.ShadeOp, api.CopyOp, api.JoinOp:
			want = len(w.Forest.Nodes)
		case api.WaitOp:
			want = w.Desk.Next
		}
		if got.err != api.OK {
			want = api.None
		}
		if got.node != want || len(got.w.Forest.Nodes) < len(w.Forest.Nodes) || !forest.Right(got.w.Forest) {
			t.Errorf("%d: %v: made %d, not %d", seed, o, got.node, want)
		}
		if want != api.None {
			made++
		}
	}
	if made < 400 {
		t.Errorf("only %d were made", made)
	}
}

// P18.2: what is handed in stays as it is, whatever it is, and an answer is the caller's own.
func TestCareful(t *testing.T) {
	some := map[string]api.World{"some of all": sample.World(), "full": tight(sample.World(), 0), "wrong": with(func(w *api.World) { w.States[9].Phase = 9 })}
	calm := with(func(w *api.World) { w.Line.Stack, w.Line.Busy = nil, false })
	some["no lists"], some["forms"], some["nothing"] = calm, forms(), api.World{}
	for what, w := range some {
		for _, text := range append(each(), `reset 2`, `restore 5 "s"`, `wait "x-q"`, `wait "p"`, `upgrade 7`, `give 99`, `unset 4 "q"`, `draft 0 "p" "x-c"`) {
			o := read(text)
			if _, fault := sample.AskWorld(w, func(w api.World) api.World { return do(w, o).w }); fault != "" {
				t.Errorf("%s: %s: isn't careful with %s", what, text, fault)
			}
		}
	}
}

// P18.2: the greatest worlds; it doesn't take long.
func TestGreatest(t *testing.T) {
	class := api.Class{Form: true, Watch: slices.Repeat([]string{"a"}, 12), Peek: sample.Ops(1, 60), Make: sample.Ops(1, 60)}
	for kind := range 12 {
		class.Hooks = append(class.Hooks, sample.Hook(1+kind%8, 1, 60))
	}
	for what, f := range sample.Great() {
		w, _ := world.New(slices.Repeat([]api.Class{class}, 12), api.MaxNodes)
		w, err := world.Tell(w, f, nil)
		if w.Desk = sample.Manned(); err != api.OK || !world.Right(w) {
			t.Fatalf("%s: %d", what, err)
		}
		for n, e := range f.Nodes {
			if e.Kind == api.Elem {
				w.States[n] = sample.State(api.Custom, 11)
			}
		}
		for _, text := range []string{`put 1 399 -`, `take 1 399`, `empty 1`, `set 1 "a" "1"`, `upgrade 0`, `copy 1 1 0`, `wait "d-1"`, `reset 1`, `draft 0 "d-1" ""`} {
			check(t, what+": "+text, do(w, read(text)), doByWords(w, read(text)))
		}
	}
}

// P18.2: a copy of many, each of whom has a fate, beside as many tickets as may be.
func TestGreatCopy(t *testing.T) {
	w, _ := world.New(make([]api.Class, 12), api.MaxNodes)
	w.Desk = sample.Manned()
	f := sample.Chain(200, false)
	for n := range f.Nodes {
		if f.Nodes[n].Kind == api.Elem {
			f.Nodes[n].Name = "d-7"
		}
	}
	w, err := world.Tell(w, f, nil)
	v, n, no := deed.Do(w, read(`copy 1 1 0`))
	if err != api.OK || no != api.OK || n != 200 || len(v.Forest.Nodes) != 399 || !world.Right(v) {
		t.Fatalf("%d, %d: the copy is %d, of %d", err, no, n, len(v.Forest.Nodes))
	}
	for n, todos := range v.Line.Todos {
		if n < 200 && len(todos) > 0 || n >= 200 && !slices.Equal(todos, []api.Todo{upgrade(7)}) {
			t.Errorf("%d: %v", n, todos)
		}
	}
}
