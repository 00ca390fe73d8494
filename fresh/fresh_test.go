package fresh_test

import (
	"testing"

	"instar/api"
	"instar/fresh"
	"instar/sample"
)

// two is two nodes, each with all its fields filled, and lists with room to spare.
func two() api.Forest {
	node := func(n int) api.Node {
		attrs := []api.Attr{{Name: "a", Value: "1"}, {Name: "b", Value: "2"}, {Name: "spare"}}
		return api.Node{
			Kind: n, Name: "n", Is: "i", Data: "d", Attrs: attrs[:2],
			Parent: n + 1, Kids: []int{n, 7, 77}[:2], Host: n + 2, Under: n + 3, Doc: n + 4,
		}
	}
	return api.Forest{Nodes: []api.Node{node(1), node(11), {Name: "spare"}}[:2], Most: 9}
}

// A copy is the same, and neither it nor what it was made of sees what is done to the other.
func TestForest(t *testing.T) {
	for _, f := range []api.Forest{{}, {Nodes: []api.Node{}}, {Most: -3}, {Nodes: []api.Node{{}}, Most: 1}, two()} {
		if g := fresh.Forest(f); !sample.Same(f, g) {
			t.Errorf("copy of %v: %v", f, g)
		}
	}
	f, g := two(), fresh.Forest(two())
	h := fresh.Forest(f)
	sample.Scribble(h)
	if !sample.Same(f, g) || f.Nodes[:3][2].Name != "spare" || f.Nodes[1].Kids[:3][2] != 77 || f.Nodes[1].Attrs[:3][2].Name != "spare" {
		t.Errorf("a change of the copy changed what it was made of: %v", f)
	}
	h = fresh.Forest(f)
	sample.Scribble(f)
	if !sample.Same(h, g) {
		t.Errorf("a change of what was handed in changed the copy: %v", h)
	}
}

// Whoever is alone has nobody about it, keeps all else, and shares nothing; a Doc is its own.
func TestAlone(t *testing.T) {
	f := two()
	for kind, doc := range map[int]int{api.Doc: 9, api.Elem: 15, api.Text: 15, api.Frag: 15, api.Shade: 15, 77: 15} {
		n := f.Nodes[1]
		n.Kind = kind
		want := api.Node{Kind: kind, Name: "n", Is: "i", Data: "d", Attrs: []api.Attr{{Name: "a", Value: "1"}, {Name: "b", Value: "2"}}, Parent: -1, Host: -1, Under: -1, Doc: doc}
		got := fresh.Alone(n, 9)
		if !sample.SameNode(got, want) {
			t.Errorf("alone: %v, not %v", got, want)
		}
		sample.Scribble(api.Forest{Nodes: []api.Node{got}})
	}
	if !sample.Same(f, two()) {
		t.Errorf("what was handed in has changed: %v", f)
	}
}

// A desk's copy is the same, and sees nothing of what is done to what it was made of, nor the other way round.
func TestDesk(t *testing.T) {
	for what, d := range sample.RightDesks() {
		d.Busy = !d.Busy
		if e, careful := sample.AskDesk(d, fresh.Desk); !careful || !sample.SameDesk(d, e) {
			t.Errorf("%s: not the same, or not carefully copied: %v", what, careful)
		}
	}
}

// So it is of a line, and no two of a copy's lists share memory, even where they did in what it was made of.
func TestLine(t *testing.T) {
	copied := func(l api.Line) (api.Line, []int) { return fresh.Line(l), nil }
	for seed := range 100 {
		all := map[string]api.Line{"some of all": sample.Line(), "a rank": sample.Rank(seed), "nothing": {}, "empty lists": {Todos: [][]api.Todo{}, Stack: [][]int{{}}}}
		for what, l := range all {
			if m, _, fault := sample.AskLine(l, copied); fault != "" || !sample.SameLine(l, m) {
				t.Errorf("%s: not the same, or not carefully copied: %s", what, fault)
			}
		}
	}
	l := sample.Line()
	l.Todos[0], l.Stack[0], l.Stack[1] = l.Todos[1][:2], l.Back, l.Back[1:]
	l = fresh.Line(l)
	l.Todos[0][1].Def, l.Stack[0][1], l.Back[2] = 77, 77, 77
	if l.Todos[1][1].Def == 77 || l.Stack[1][0] == 77 || l.Back[1] == 77 || l.Stack[1][1] == 77 {
		t.Errorf("lists of the copy share memory: %v", l)
	}
}

// A class's copy is the same, and no two lists of it, or of it and what it was made of, share memory.
func TestClass(t *testing.T) {
	all := sample.Classes()
	all[3].Peek, all[3].Make, all[3].Watch = all[1].Make[:1], all[1].Make, all[0].Watch[:1]
	for i, c := range append(all, sample.Guild(7)...) {
		l, _, fault := sample.AskClasses([]api.Class{c}, func(l []api.Class) ([]api.Class, []api.Op) {
			return []api.Class{fresh.Class(l[0])}, nil
		})
		if fault != "" || len(l) != 1 || !sample.SameClass(l[0], c) {
			t.Errorf("%d: not the same, or not carefully copied: %q, %v", i, fault, l)
		}
	}
	c := all[3]
	c.Hooks = []api.Hook{{Kind: 1, Do: c.Make}, {Kind: 2, Do: c.Make[1:]}}
	c = fresh.Class(c)
	c.Hooks[0].Do[1].S, c.Peek[0].S = "mine", "mine"
	if c.Hooks[1].Do[0].S == "mine" || c.Make[0].S == "mine" || c.Make[1].S == "mine" {
		t.Errorf("lists of the copy share memory: %v", c)
	}
}

// A world's copy is the same, and shares none of its parts' memory.
func TestWorld(t *testing.T) {
	all := sample.RightWorlds()
	all["nothing"], all["a realm"], all["empty lists"] = api.World{}, sample.Realm(3), api.World{States: []api.State{}, Tasks: []api.Task{}, Builds: []api.Build{}, Classes: []api.Class{}}
	for what, w := range all {
		if v, fault := sample.AskWorld(w, fresh.World); fault != "" || !sample.SameWorld(v, w) {
			t.Errorf("%s: not the same, or not carefully copied: %s", what, fault)
		}
	}
}

// So it is of classes, even where some of them are one and the same.
func TestClasses(t *testing.T) {
	once := sample.Classes()
	for _, all := range [][]api.Class{nil, {}, {{}}, once, {once[1], once[0], once[1]}} {
		l, _, fault := sample.AskClasses(all, func(l []api.Class) ([]api.Class, []api.Op) { return fresh.Classes(l), nil })
		if fault != "" || !sample.SameClasses(l, all) {
			t.Errorf("not the same, or not carefully copied: %q, %v", fault, l)
		}
	}
	twice := fresh.Classes([]api.Class{once[1], once[1]})
	twice[0].Make[0].S, twice[0].Watch[0] = "mine", "mine"
	if twice[1].Make[0].S == "mine" || twice[1].Watch[0] == "mine" || once[1].Make[0].S == "mine" {
		t.Errorf("classes of the copy share memory: %v", twice)
	}
}
