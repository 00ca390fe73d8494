package deed_test

import (
	"fmt"
	"slices"
	"strings"
	"testing"

	"instar/api"
	"instar/attr"
	"instar/deed"
	"instar/op"
	"instar/sample"
	"instar/world"
)

// do asks the program.
func do(w api.World, o api.Op) done {
	v, n, err := deed.Do(w, o)
	return done{v, n, err}
}

// check checks that a call answered this.
func check(t *testing.T, what string, got, want done) {
	t.Helper()
	if got.node != want.node || got.err != want.err {
		t.Errorf("%s: the node is %d, the error %d, not %d, %d", what, got.node, got.err, want.node, want.err)
	}
	if sample.SameWorld(got.w, want.w) {
		return
	}
	v, w := parts(got.w), parts(want.w)
	for i, part := range v {
		if part != w[i] {
			t.Errorf("%s: came to %s, not to %s", what, short(part), short(w[i]))
		}
	}
}

// parts tells of each part of w.
func parts(w api.World) []string {
	return []string{
		fmt.Sprint("forest ", w.Forest), fmt.Sprint("states ", w.States), fmt.Sprint("desk ", w.Desk), fmt.Sprint("line ", w.Line),
		fmt.Sprint("tasks ", w.Tasks), fmt.Sprint("builds ", w.Builds), fmt.Sprint("classes ", w.Classes),
	}
}

// short answers as much of s as can be read.
func short(s string) string { return s[:min(len(s), 900)] }

// read answers the operation whose text s is.
func read(s string) api.Op {
	o, err := op.Read(s)
	if err != api.OK {
		panic("no operation: " + s)
	}
	return o
}

// with answers the sample world with this change: 0 and 24 are its Docs, 1 and 26 are Custom, the current list is the
// last one.
func with(change func(w *api.World)) api.World {
	w := sample.CopyWorld(sample.World())
	change(&w)
	return w
}

// same is a change that is none.
func same(w *api.World) {}

// add adds n to w, which stands by itself, with a state of this phase.
func add(w *api.World, n api.Node, phase int) {
	n.Parent, n.Host, n.Under = api.None, api.None, api.None
	w.Forest.Nodes = append(w.Forest.Nodes, n)
	w.States = append(w.States, sample.State(phase, api.None))
	w.Line.Todos = append(w.Line.Todos, nil)
}

// tell puts what is to be done to n behind all else, in the current list.
func tell(w *api.World, n int, todos ...api.Todo) {
	for _, x := range todos {
		w.Line.Todos[n] = append(w.Line.Todos[n], x)
		last := &w.Line.Stack[len(w.Line.Stack)-1]
		*last = append(*last, n)
	}
}

func upgrade(def int) api.Todo { return api.Todo{Kind: api.Upgrade, Def: def} }

// doing is an operation, as text, what it answers in a world, and what is another one in that then.
type doing struct {
	text   string
	node   int
	err    api.Errno
	change func(w *api.World)
}

// checkEach checks what each of these answers in the sample world with a change ahead.
func checkEach(t *testing.T, ahead func(w *api.World), all ...doing) {
	t.Helper()
	for _, x := range all {
		if x.change == nil {
			x.change = same
		}
		want := with(ahead)
		if !world.Right(want) {
			t.Fatal("not the world that was meant")
		}
		x.change(&want)
		check(t, x.text, do(with(ahead), read(x.text)), done{want, x.node, x.err})
		check(t, "!"+x.text, do(with(ahead), read("!"+x.text)), done{want, x.node, x.err})
	}
}

// P18.1: which Kinds need no program.
func TestNeedless(t *testing.T) {
	for kind := -40; kind <= 40; kind++ {
		if deed.Needless(kind) != slices.Contains(needless(), kind) {
			t.Errorf("%d needs no program: %v", kind, deed.Needless(kind))
		}
	}
	if deed.Needless(sample.Least) || deed.Needless(sample.Greatest) || len(needless()) != 21 {
		t.Error("not the Kinds that were meant")
	}
}

// P18.2: a draft is an element of the document, by its small name, and born as others are.
func TestDraft(t *testing.T) {
	long := strings.Repeat("a", 40)
	draft := func(name, is string, doc, phase int, todos ...api.Todo) func(w *api.World) {
		return func(w *api.World) {
			add(w, api.Node{Kind: api.Elem, Name: name, Is: is, Doc: doc}, phase)
			tell(w, 28, todos...)
		}
	}
	checkEach(t, same,
		doing{`draft 0 "P" ""`, 28, 0, draft("p", "", 0, api.Plain)},
		doing{`draft 24 "div" "x-q"`, 28, 0, draft("div", "x-q", 24, api.Open)},
		doing{`draft 0 "_9.-" ""`, 28, 0, draft("_9.-", "", 0, api.Plain)},
		doing{`draft 0 "font-face" ""`, 28, 0, draft("font-face", "", 0, api.Plain)},
		doing{`draft 0 "` + strings.ToUpper(long) + `" ""`, 28, 0, draft(long, "", 0, api.Plain)},
		doing{`draft 0 "X-Q" "x-a"`, 28, 0, draft("x-q", "x-a", 0, api.Open)},
		// Who has a fate is to be upgraded.
		doing{`draft 0 "x-a" ""`, 28, 0, draft("x-a", "", 0, api.Open, upgrade(0))},
		doing{`draft 0 "X-A" "x-c"`, 28, 0, draft("x-a", "x-c", 0, api.Open, upgrade(0))},
		doing{`draft 0 "Button" "x-c"`, 28, 0, draft("button", "x-c", 0, api.Open, upgrade(1))},
		doing{`draft 0 "x-c" ""`, 28, 0, draft("x-c", "", 0, api.Open)},
		doing{`draft 0 "button" ""`, 28, 0, draft("button", "", 0, api.Plain)},
		doing{`draft 24 "x-a" ""`, 28, 0, draft("x-a", "", 24, api.Open)},
		doing{text: `draft 0 "" ""`, node: -1, err: api.ErrName},
		doing{text: `draft 0 "9" ""`, node: -1, err: api.ErrName},
		doing{text: `draft 0 "a b" ""`, node: -1, err: api.ErrName},
		doing{text: `draft 0 "` + long + `a" ""`, node: -1, err: api.ErrName},
		doing{text: `draft 0 "p" "p"`, node: -1, err: api.ErrName},
		doing{text: `draft 0 "p" "X-A"`, node: -1, err: api.ErrName},
		doing{text: `draft 0 "p" "font-face"`, node: -1, err: api.ErrName},
		doing{text: `draft 0 "p" "9"`, node: -1, err: api.ErrName},
	)
}

// P18.2: texts, fragments and shadows.
func TestMake(t *testing.T) {
	long := strings.Repeat("v", 200)
	one := func(n api.Node) func(w *api.World) {
		return func(w *api.World) { add(w, n, api.Plain) }
	}
	cast := func(host, doc int) func(w *api.World) {
		return func(w *api.World) {
			add(w, api.Node{Kind: api.Shade, Doc: doc}, api.Plain)
			w.Forest.Nodes[28].Host, w.Forest.Nodes[host].Under = host, 28
		}
	}
	checkEach(t, same,
		doing{`text 0 ""`, 28, 0, one(api.Node{Kind: api.Text})},
		doing{`text 24 "x-a"`, 28, 0, one(api.Node{Kind: api.Text, Data: "x-a", Doc: 24})},
		doing{`text 0 "` + long + `"`, 28, 0, one(api.Node{Kind: api.Text, Data: long})},
		doing{`frag 0`, 28, 0, one(api.Node{Kind: api.Frag})},
		doing{`frag 24`, 28, 0, one(api.Node{Kind: api.Frag, Doc: 24})},
		doing{`shade 9`, 28, 0, cast(9, 0)},
		doing{`shade 25`, 28, 0, cast(25, 24)},
		doing{text: `shade 7`, node: -1, err: api.ErrAlready},
		doing{text: `shade 8`, node: -1, err: api.ErrTree},
		doing{text: `shade 6`, node: -1, err: api.ErrTree},
		doing{text: `shade 0`, node: -1, err: api.ErrTree},
		doing{text: `shade 16`, node: -1, err: api.ErrTree},
	)
}

// P18.2: what isn't a document comes ahead of a wrong name, and that ahead of no room.
func TestMakeRefused(t *testing.T) {
	full := func(w *api.World) { w.Forest = sample.Full(w.Forest) }
	for _, ahead := range []func(w *api.World){same, full} {
		// An Elem, a Text, a Shade and a Frag are no Docs.
		for _, n := range []string{"9", "6", "16", "17"} {
			checkEach(t, ahead,
				doing{text: `draft ` + n + ` "9" "p"`, node: -1, err: api.ErrTree}, doing{text: `draft ` + n + ` "p" ""`, node: -1, err: api.ErrTree},
				doing{text: `text ` + n + ` "t"`, node: -1, err: api.ErrTree}, doing{text: `frag ` + n, node: -1, err: api.ErrTree},
			)
		}
		checkEach(t, ahead, doing{text: `draft 0 "9" ""`, node: -1, err: api.ErrName}, doing{text: `draft 24 "p" "p"`, node: -1, err: api.ErrName})
	}
	checkEach(t, full,
		doing{text: `draft 0 "p" ""`, node: -1, err: api.ErrFull}, doing{text: `draft 0 "x-a" "x-c"`, node: -1, err: api.ErrFull},
		doing{text: `text 0 "t"`, node: -1, err: api.ErrFull}, doing{text: `frag 24`, node: -1, err: api.ErrFull},
		doing{text: `shade 9`, node: -1, err: api.ErrFull}, doing{text: `shade 7`, node: -1, err: api.ErrAlready},
		doing{text: `copy 6 0 0`, node: -1, err: api.ErrFull}, doing{text: `copy 6 0 6`, node: -1, err: api.ErrArg},
		doing{text: `join 17`, node: -1, err: api.ErrFull}, doing{text: `join 6`, node: -1, err: api.ErrTree},
	)
	// There is room for one, but not for two; and for two, but not for three.
	checkEach(t, func(w *api.World) { w.Forest.Most = 30 }, doing{text: `copy 17 1 0`, node: -1, err: api.ErrFull}, doing{text: `copy 7 1 24`, node: 28, change: func(w *api.World) {
		add(w, api.Node{Kind: api.Elem, Name: "x-a", Is: "x-c", Doc: 24}, api.Open)
		add(w, api.Node{Kind: api.Elem, Name: "x-a", Is: "x-b", Doc: 24}, api.Open)
		sample.Hang(w.Forest, 28, 29)
	}})
}

// P18.2: copies, deep but for 0, and each that has a fate is to be upgraded, in the order of the numbers.
func TestCopy(t *testing.T) {
	shallow := func(w *api.World) {
		add(w, sample.ElemIs("x-a", "x-c"), api.Open)
		tell(w, 28, upgrade(0))
	}
	deep := func(w *api.World) {
		add(w, sample.ElemIs("x-a", "x-c"), api.Open)
		add(w, sample.ElemIs("x-a", "x-b"), api.Open)
		sample.Hang(w.Forest, 28, 29)
		tell(w, 28, upgrade(0))
		tell(w, 29, upgrade(0))
	}
	frag := func(doc int, todos ...api.Todo) func(w *api.World) {
		return func(w *api.World) {
			add(w, sample.Of(doc, api.Node{Kind: api.Frag}), api.Plain)
			add(w, sample.Of(doc, sample.Elem("x-a")), api.Open)
			add(w, sample.Of(doc, sample.ElemIs("button", "x-c")), api.Open)
			sample.Hang(w.Forest, 28, 29, 30)
			for i, x := range todos {
				tell(w, 29+i, x)
			}
		}
	}
	checkEach(t, same,
		doing{`copy 7 0 0`, 28, 0, shallow}, doing{`copy 7 1 0`, 28, 0, deep}, doing{`copy 7 -1 0`, 28, 0, deep}, doing{`copy 7 1000 0`, 28, 0, deep},
		doing{`copy 17 1 0`, 28, 0, frag(0, upgrade(0), upgrade(1))}, doing{`copy 17 1 24`, 28, 0, frag(24)},
		doing{`copy 17 0 0`, 28, 0, func(w *api.World) { add(w, api.Node{Kind: api.Frag}, api.Plain) }},
		// A Shade's copy is a Frag; whoever is of another document has a fate then, and is told so, though it isn't connected.
		doing{`copy 16 0 24`, 28, 0, func(w *api.World) { add(w, sample.Of(24, api.Node{Kind: api.Frag}), api.Plain) }},
		doing{`copy 26 0 0`, 28, 0, func(w *api.World) { add(w, sample.ElemIs("button", "x-c"), api.Open); tell(w, 28, upgrade(1)) }},
		doing{`copy 6 1 0`, 28, 0, func(w *api.World) { add(w, sample.Text("t"), api.Plain) }},
		// A Doc's copy is a document of its own, in which nobody has a fate.
		doing{`copy 24 1 0`, 28, 0, func(w *api.World) {
			add(w, sample.Of(28, api.Node{Kind: api.Doc}), api.Plain)
			add(w, sample.Of(28, sample.Elem("x-a")), api.Open)
			add(w, sample.Of(28, sample.ElemIs("button", "x-c")), api.Open)
			sample.Hang(w.Forest, 28, 29)
			sample.Hang(w.Forest, 29, 30)
		}},
		doing{text: `copy 7 1 7`, node: -1, err: api.ErrArg}, doing{text: `copy 7 0 17`, node: -1, err: api.ErrArg}, doing{text: `copy 24 0 16`, node: -1, err: api.ErrArg},
	)
}

// P18.2: where there is no list, whoever has a fate waits, and somebody is told of it once.
func TestDrain(t *testing.T) {
	for _, busy := range []bool{false, true} {
		calm := func(w *api.World) { w.Line.Stack, w.Line.Busy = nil, busy }
		checkEach(t, calm, doing{`copy 7 1 0`, 28, 0, func(w *api.World) {
			add(w, sample.ElemIs("x-a", "x-c"), api.Open)
			add(w, sample.ElemIs("x-a", "x-b"), api.Open)
			sample.Hang(w.Forest, 28, 29)
			w.Line.Todos[28], w.Line.Todos[29] = []api.Todo{upgrade(0)}, []api.Todo{upgrade(0)}
			w.Line.Back, w.Line.Busy = []int{0, 28, 29}, true
			if !busy {
				w.Tasks = append(w.Tasks, api.Task{Kind: api.Drain})
			}
		}})
	}
}

// P18.2: nodes put in, taken out and exchanged, and who is told of that: 1 is Custom, by a class that hears of Came, 26
// by one that hears of all; 5 is Open.
func TestPut(t *testing.T) {
	came, went := api.Todo{Kind: api.Came}, api.Todo{Kind: api.Went}
	out := func(w *api.World) { sample.Cut(w.Forest, 26); tell(w, 26, went) }
	behind := func(w *api.World) { sample.Cut(w.Forest, 1); sample.Hang(w.Forest, 9, 1); tell(w, 1, came) }
	swapped := func(w *api.World) {
		w.Forest.Nodes[9].Kids[0], w.Forest.Nodes[7].Parent, w.Forest.Nodes[20].Parent = 20, api.None, 9
	}
	checkEach(t, same,
		doing{`put 1 9 -`, -1, 0, behind}, doing{`handput 1 9 -`, -1, 0, behind},
		doing{`out 26`, -1, 0, out}, doing{`handout 26`, -1, 0, out},
		doing{`swap 20 9 7`, -1, 0, swapped},
		// The one that comes is Open, and has a fate.
		doing{`put 5 9 7`, -1, 0, func(w *api.World) {
			sample.Cut(w.Forest, 5)
			w.Forest.Nodes[9].Kids, w.Forest.Nodes[5].Parent = slices.Insert(w.Forest.Nodes[9].Kids, 0, 5), 9
			tell(w, 5, upgrade(0))
		}},
		doing{`put 26 17 18`, -1, 0, func(w *api.World) {
			sample.Cut(w.Forest, 26)
			w.Forest.Nodes[17].Kids, w.Forest.Nodes[26].Parent, w.Forest.Nodes[26].Doc = []int{26, 18, 19}, 17, 0
			tell(w, 26, went, api.Todo{Kind: api.Moved, From: 24})
		}},
		doing{text: `put 9 7 -`, node: -1, err: api.ErrTree}, doing{text: `handput 9 7 -`, node: -1, err: api.ErrTree},
		doing{text: `put 1 9 5`, node: -1, err: api.ErrNone}, doing{text: `handput 1 9 5`, node: -1, err: api.ErrNone}, doing{text: `put 20 0 -`, node: -1, err: api.ErrTree},
		doing{text: `put 0 9 -`, node: -1, err: api.ErrTree}, doing{text: `put 1 6 -`, node: -1, err: api.ErrTree},
		doing{text: `swap 20 9 -`, node: -1, err: api.ErrNone}, doing{text: `swap 20 9 5`, node: -1, err: api.ErrNone}, doing{text: `swap 0 9 7`, node: -1, err: api.ErrTree},
		doing{text: `out 20`, node: -1, err: api.ErrNone}, doing{text: `handout 20`, node: -1, err: api.ErrNone}, doing{text: `out 0`, node: -1, err: api.ErrNone},
	)
}

// P18.2: attributes set, removed and toggled; 26 watches title and a, and hears of each change, 9 hears of nothing.
func TestAttrs(t *testing.T) {
	title := func(w *api.World) { w.Forest.Nodes[26].Attrs = []api.Attr{{Name: "title", Value: "o"}} }
	to := func(l []api.Attr, todos ...api.Todo) func(w *api.World) {
		return func(w *api.World) { w.Forest.Nodes[26].Attrs = l; tell(w, 26, todos...) }
	}
	set := to([]api.Attr{{Name: "title", Value: "n"}}, api.Todo{Kind: api.Changed, Name: "title", Had: true, Has: true, Old: "o", New: "n"})
	gone := to(nil, api.Todo{Kind: api.Changed, Name: "title", Had: true, Old: "o"})
	more := to([]api.Attr{{Name: "title", Value: "o"}, {Name: "a"}}, api.Todo{Kind: api.Changed, Name: "a", Has: true})
	checkEach(t, title,
		doing{`set 26 "TITLE" "n"`, -1, 0, set}, doing{`handset 26 "title" "n"`, -1, 0, set},
		doing{`set 26 "b" "n"`, -1, 0, to([]api.Attr{{Name: "title", Value: "o"}, {Name: "b", Value: "n"}})},
		doing{`set 9 "a" "n"`, -1, 0, func(w *api.World) { w.Forest.Nodes[9].Attrs = []api.Attr{{Name: "a", Value: "n"}} }},
		doing{`unset 26 "Title"`, -1, 0, gone}, doing{`unset 26 "a"`, -1, 0, same},
		doing{`toggle 26 0 "title"`, -1, 0, gone}, doing{`toggle 26 -7 "title"`, -1, 0, gone}, doing{`toggle 26 1 "title"`, -1, 0, same},
		doing{`toggle 26 0 "A"`, -1, 0, more}, doing{`toggle 26 9 "a"`, -1, 0, more}, doing{`toggle 26 -1 "a"`, -1, 0, same},
		doing{text: `set 26 "9" "n"`, node: -1, err: api.ErrName}, doing{text: `handset 26 "" "n"`, node: -1, err: api.ErrName},
		doing{text: `unset 26 "9"`, node: -1, err: api.ErrName}, doing{text: `toggle 26 -1 "9"`, node: -1, err: api.ErrName},
		doing{text: `set 6 "9" "n"`, node: -1, err: api.ErrTree}, doing{text: `handset 0 "a" "n"`, node: -1, err: api.ErrTree},
		doing{text: `unset 16 "a"`, node: -1, err: api.ErrTree}, doing{text: `toggle 17 0 "a"`, node: -1, err: api.ErrTree},
	)
	var all []api.Attr
	for _, c := range "abcdefghijklmnopqrstuvwxyz_" {
		all = append(all, api.Attr{Name: string(c)}, api.Attr{Name: "x" + string(c)})
	}
	full := func(w *api.World) { w.Forest.Nodes[26].Attrs = all[:40] }
	if !attr.Right(all[:40]) {
		t.Fatal("no attributes")
	}
	checkEach(t, full, doing{text: `set 26 "q9" ""`, node: -1, err: api.ErrLong}, doing{text: `toggle 26 0 "q9"`, node: -1, err: api.ErrLong}, doing{text: `toggle 26 -1 "q9"`, node: -1})
}

// P18.2: nodes taken over, emptied and joined, and who is told of that.
func TestTake(t *testing.T) {
	went := api.Todo{Kind: api.Went}
	checkEach(t, same,
		doing{`take 26 0`, -1, 0, func(w *api.World) {
			sample.Cut(w.Forest, 26)
			w.Forest.Nodes[26].Doc = 0
			tell(w, 26, went, api.Todo{Kind: api.Moved, From: 24})
		}},
		doing{`take 26 24`, -1, 0, func(w *api.World) { sample.Cut(w.Forest, 26); tell(w, 26, went) }},
		doing{`take 20 0`, -1, 0, same},
		doing{`empty 25`, -1, 0, func(w *api.World) { sample.Cut(w.Forest, 26); tell(w, 26, went) }},
		doing{`empty 6`, -1, 0, same}, doing{`empty 1`, -1, 0, same},
		doing{`join 25`, 28, 0, func(w *api.World) {
			sample.Cut(w.Forest, 26)
			add(w, api.Node{Kind: api.Frag, Doc: 24}, api.Plain)
			sample.Hang(w.Forest, 28, 26)
			tell(w, 26, went)
		}},
		// Those that are joined are no new ones: though they have a fate, they aren't upgraded.
		doing{`join 17`, 28, 0, func(w *api.World) {
			sample.Cut(w.Forest, 18)
			sample.Cut(w.Forest, 19)
			add(w, api.Node{Kind: api.Frag}, api.Plain)
			sample.Hang(w.Forest, 28, 18, 19)
		}},
		doing{text: `take 26 25`, node: -1, err: api.ErrArg}, doing{text: `take 0 6`, node: -1, err: api.ErrArg},
		doing{text: `take 0 24`, node: -1, err: api.ErrTree}, doing{text: `take 16 0`, node: -1, err: api.ErrTree}, doing{text: `join 6`, node: -1, err: api.ErrTree},
	)
}

// P18.2: tickets, of which those whose name is defined are to be told when the world rests.
func TestWait(t *testing.T) {
	ticket := func(n int, name string) func(w *api.World) {
		return func(w *api.World) {
			w.Desk.Next, w.Desk.Waits = n+1, append(w.Desk.Waits, api.Wait{Name: name, Ticket: n})
		}
	}
	kept := func(n, def int) func(w *api.World) {
		return func(w *api.World) {
			w.Desk.Next, w.Tasks = n+1, append(w.Tasks, api.Task{Kind: api.Keep, Ticket: n, Def: def})
		}
	}
	refused := []doing{
		{text: `wait "p"`, node: -1, err: api.ErrName}, {text: `wait ""`, node: -1, err: api.ErrName},
		{text: `wait "X-A"`, node: -1, err: api.ErrName}, {text: `wait "font-face"`, node: -1, err: api.ErrName},
	}
	checkEach(t, same, append(refused,
		doing{`wait "x-q"`, 7, 0, ticket(7, "x-q")}, doing{`wait "x-b"`, 7, 0, ticket(7, "x-b")},
		doing{`wait "x-a"`, 7, 0, kept(7, 0)}, doing{`wait "x-c"`, 7, 0, kept(7, 1)},
	)...)
	checkEach(t, func(w *api.World) { w.Desk.Next = 99999 }, doing{`wait "x-q"`, 99999, 0, ticket(99999, "x-q")}, doing{`wait "x-c"`, 99999, 0, kept(99999, 1)})
	checkEach(t, func(w *api.World) { w.Desk.Next = 100000 }, append(refused, doing{text: `wait "x-q"`, node: -1, err: api.ErrLong}, doing{text: `wait "x-a"`, node: -1, err: api.ErrLong})...)
	checkEach(t, func(w *api.World) { w.Desk.Busy = true }, doing{`wait "x-a"`, 7, 0, kept(7, 0)})
}

// P18.2: of those that have a fate, whoever is Open is upgraded, in full order, connected or not.
func TestUpgrade(t *testing.T) {
	open := func(all ...int) func(w *api.World) {
		return func(w *api.World) {
			for _, n := range all {
				w.States[n] = sample.State(api.Open, api.None)
			}
		}
	}
	some := func(todos map[int]api.Todo, order ...int) func(w *api.World) {
		return func(w *api.World) {
			for _, n := range order {
				tell(w, n, todos[n])
			}
		}
	}
	fates := map[int]api.Todo{2: upgrade(0), 5: upgrade(0), 7: upgrade(0), 13: upgrade(1), 18: upgrade(0), 19: upgrade(1), 20: upgrade(0)}
	checkEach(t, open(2, 4, 5, 13, 18, 19, 20, 11, 25),
		doing{`upgrade 0`, -1, 0, some(fates, 13, 2, 5)}, doing{`upgrade 7`, -1, 0, some(fates, 13, 2, 5)}, doing{`upgrade 16`, -1, 0, some(fates, 13, 2)},
		doing{`upgrade 17`, -1, 0, some(fates, 18, 19)}, doing{`upgrade 20`, -1, 0, some(fates, 20)},
		// 1 is Custom, 7 Half, 10 Failed; 24 is another document; 4, 11 and the Text 6 have no fate.
		doing{`upgrade 1`, -1, 0, same}, doing{`upgrade 10`, -1, 0, same}, doing{`upgrade 24`, -1, 0, same}, doing{`upgrade 4`, -1, 0, same}, doing{`upgrade 11`, -1, 0, same}, doing{`upgrade 6`, -1, 0, same},
	)
	for phase := api.Plain; phase <= api.Failed; phase++ {
		change := same
		if phase == api.Open {
			change = some(fates, 20)
		}
		checkEach(t, func(w *api.World) { w.States[20] = sample.State(phase, 1) }, doing{`upgrade 20`, -1, 0, change})
	}
}

// forms answers a world: 1 is a form, 2 a fieldset, 3 and 4 are Custom, by a class that is for forms and hears of all,
// and were told nothing yet; 5 is a Text, 6 a form!x-a that is empty.
func forms() api.World {
	f := sample.Rooted(`<div><form><fieldset disabled=""><x-a></x-a></fieldset><x-a></x-a>"t"</form><form!x-a></form></div>`)
	w, _ := world.New([]api.Class{{Form: true, Hooks: sample.Classes()[2].Hooks}}, f.Most)
	w, err := world.Tell(w, f, nil)
	if w.Desk.Defs = []api.Def{{Name: "x-a", Local: "x-a"}}; err != api.OK {
		panic("no world")
	}
	w.States[4], w.States[5] = sample.State(api.Custom, 0), sample.State(api.Custom, 0)
	w.Line.Stack = [][]int{nil}
	return w
}

// P18.2: a form's members are told that it is reset; an element, what it gets back.
func TestForms(t *testing.T) {
	for _, x := range []doing{
		{`reset 2`, -1, 0, func(w *api.World) { tell(w, 4, api.Todo{Kind: api.Cleared}); tell(w, 5, api.Todo{Kind: api.Cleared}) }},
		{`reset 7`, -1, 0, same},
		{`reset 1`, -1, api.ErrTree, same}, {`reset 4`, -1, api.ErrTree, same}, {`reset 0`, -1, api.ErrTree, same}, {`reset 6`, -1, api.ErrTree, same},
		{`restore 4 "s"`, -1, 0, func(w *api.World) { tell(w, 4, api.Todo{Kind: api.Restored, New: "s"}) }},
		{`restore 5 ""`, -1, 0, func(w *api.World) { tell(w, 5, api.Todo{Kind: api.Restored}) }},
		{`restore 2 "s"`, -1, 0, same}, {`restore 7 "s"`, -1, 0, same},
		{`restore 0 "s"`, -1, api.ErrTree, same}, {`restore 6 "s"`, -1, api.ErrTree, same},
	} {
		want := forms()
		x.change(&want)
		check(t, x.text, do(forms(), read(x.text)), done{want, x.node, x.err})
	}
}

// P18.2: behind what isn't refused the world goes on, whether or not something changed: so they are told what they
// weren't told yet; not behind a refusal, nor behind what only waits, upgrades, resets or restores.
func TestGoesOn(t *testing.T) {
	for _, text := range []string{`unset 1 "a"`, `toggle 1 -1 "a"`, `empty 6`, `frag 0`, `take 4 0`, `set 1 "a" ""`, `shade 1`, `draft 0 "x-a" ""`} {
		w := do(forms(), read(text)).w
		if s := w.States[5]; s.Owner != 2 || len(w.Line.Todos[5]) != 1 || w.Line.Todos[5][0] != (api.Todo{Kind: api.Owned, From: api.None, To: 2}) {
			t.Errorf("%s: the state is %v, told was %v", text, s, w.Line.Todos[5])
		}
	}
	for _, text := range []string{`unset 6 "a"`, `out 0`, `frag 1`, `new 0 "p" ""`, `rest`, `wait "x-a"`, `upgrade 0`, `reset 7`, `restore 2 ""`} {
		w := do(forms(), read(text)).w
		if !slices.Equal(w.States, forms().States) || len(slices.Concat(w.Line.Todos...)) != 0 {
			t.Errorf("%s: the states are %v, told was %v", text, w.States, w.Line.Todos)
		}
	}
}

// P18.2: what is told by the step comes first, then what forms tell, then who is new is upgraded.
func TestOrder(t *testing.T) {
	w := forms()
	got := do(w, read(`take 4 0`)).w
	if !slices.Equal(got.Line.Stack[0], []int{4, 5}) || !slices.Equal(got.Line.Todos[4], []api.Todo{{Kind: api.Went}}) {
		t.Errorf("told were %v: %v", got.Line.Stack, got.Line.Todos)
	}
	w.States[4].Owner = 2
	got = do(w, read(`out 4`)).w
	if !slices.Equal(got.Line.Stack[0], []int{4, 4, 5}) || !slices.Equal(got.Line.Todos[4], []api.Todo{{Kind: api.Went}, {Kind: api.Owned, From: 2, To: -1}}) {
		t.Errorf("told were %v: %v", got.Line.Stack, got.Line.Todos)
	}
	got = do(w, read(`copy 3 1 0`)).w
	if !slices.Equal(got.Line.Stack[0], []int{4, 5, 9}) || !slices.Equal(got.Line.Todos[9], []api.Todo{upgrade(0)}) {
		t.Errorf("told were %v: %v", got.Line.Stack, got.Line.Todos)
	}
}

// P18.2: what needs a program is refused, whatever it has, if its nodes are there.
func TestState(t *testing.T) {
	for _, text := range []string{`new 0 "p" ""`, `new 9 "9" "9"`, `define 0 "x-q" ""`, `define -1000 "" ""`, `build 99`, `super`, `give 9`, `give 0`, `throw`, `rest`} {
		checkEach(t, same, doing{text: text, node: -1, err: api.ErrState})
	}
	for _, text := range []string{`new 28 "p" ""`, `new self "p" ""`, `new last "p" ""`, `give 28`, `give self`, `give last`, `give 399`} {
		checkEach(t, same, doing{text: text, node: -1, err: api.ErrArg})
	}
}

// each are operations of each Kind, in their order, with nodes of the sample world.
func each() []string {
	return []string{
		`new 0 "p" ""`, `draft 0 "x-a" ""`, `text 0 "t"`, `frag 0`, `shade 9`, `put 1 9 -`, `out 26`, `swap 20 9 7`, `set 26 "a" "1"`, `unset 26 "title"`,
		`toggle 26 0 "a"`, `copy 7 1 0`, `take 26 0`, `empty 9`, `join 9`, `define 0 "x-q" ""`, `wait "x-a"`, `upgrade 0`, `build 0`, `super`, `give 9`, `throw`,
		`reset 9`, `restore 26 "s"`, `rest`, `handput 1 9 -`, `handout 26`, `handset 26 "a" "1"`,
	}
}

// P18.2: a node that isn't there comes ahead of all else, in each field; where none may stand, it is none.
func TestNodes(t *testing.T) {
	fields := 0
	for i, text := range each() {
		if o := read(text); o.Kind != i+1 || do(sample.World(), o).err == api.ErrArg {
			t.Errorf("%s: not what was meant", text)
		}
		for _, field := range sample.Fields(i + 1) {
			if !strings.HasPrefix(field, "node") {
				continue
			}
			fields++
			for _, n := range []int{-1, -2, -3, -4, 28, 29, 39, 40, 399, 400, -400, sample.Least, sample.Greatest} {
				o := read(text)
				if *sample.NumberAt(&o, field) = n; n == api.None && field == "node or none C" {
					continue
				}
				check(t, fmt.Sprint(o), do(sample.World(), o), done{sample.World(), api.None, api.ErrArg})
			}
		}
	}
	if fields != 30 {
		t.Errorf("%d fields were asked of", fields)
	}
}

// P18.2: what isn't right is none: no Kind, a field that isn't its, a great number, a long text, a line feed.
func TestWrongOps(t *testing.T) {
	long := strings.Repeat("v", 201)
	for _, o := range []api.Op{
		{}, {Kind: 29}, {Kind: -1}, {Kind: sample.Least}, {Kind: sample.Greatest}, {Kind: api.BadOp, S: "x-a"},
		{Kind: api.FragOp, B: 1}, {Kind: api.FragOp, C: api.None}, {Kind: api.FragOp, S: "s"}, {Kind: api.TextOp, S: "s", T: "t"}, {Kind: api.WaitOp, A: 1, S: "x-a"},
		{Kind: api.TextOp, S: long}, {Kind: api.TextOp, S: "\n"}, {Kind: api.SetOp, A: 9, S: "a", T: long}, {Kind: api.SetOp, A: 9, S: "a", T: "a\nb"}, {Kind: api.SetOp, A: 9, S: "\n"},
		{Kind: api.ToggleOp, A: 9, B: 1001, S: "a"}, {Kind: api.ToggleOp, A: 9, B: -1001, S: "a"}, {Kind: api.CopyOp, A: 9, B: sample.Greatest}, {Kind: api.RestOp, A: 1}, {Kind: api.RestOp, S: "s"},
	} {
		check(t, fmt.Sprint(o), do(sample.World(), o), done{sample.World(), api.None, api.ErrArg})
	}
}

// P18.2: in what is no world nothing is done, whatever it is.
func TestWrongWorlds(t *testing.T) {
	for what, w := range sample.WrongWorlds() {
		for _, text := range []string{`frag 0`, `wait "x-q"`, `upgrade 0`, `rest`, `put 1 9 -`, `set 9 "a" "1"`, `reset 9`, `give 399`} {
			check(t, what+": "+text, do(w, read(text)), done{w, api.None, api.ErrArg})
		}
	}
}

// The chapter's example: by hand, the same is done; and each other one that is done by hand, too.
func TestHands(t *testing.T) {
	w := with(func(w *api.World) { w.States[3] = sample.State(api.Custom, 0) })
	for hand, text := range map[string]string{
		`handset 3 "a" "1"`: `set 3 "a" "1"`, `handset 26 "title" ""`: `set 26 "title" ""`, `handput 1 17 19`: `put 1 17 19`, `handout 26`: `out 26`, `handout 0`: `out 0`, `handset 0 "9" ""`: `set 0 "9" ""`,
	} {
		want := do(w, read(text))
		if check(t, hand, do(w, read(hand)), want); sample.SameWorld(want.w, w) != (want.err != api.OK) {
			t.Errorf("%s: not what was meant: %d", text, want.err)
		}
	}
}
