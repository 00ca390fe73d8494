package forest_test

import (
	"slices"
	"strconv"
	"strings"
	"testing"

	"instar/api"
	"instar/forest"
	"instar/sample"
)

// checkRight asks Right, and, of a forest that isn't right, whether all other calls tell so.
func checkRight(t *testing.T, what string, f api.Forest, right bool) {
	t.Helper()
	if forest.Right(f) != right {
		t.Fatalf("%s: Right = %v: %v", what, !right, f)
	}
	if right {
		return
	}
	for _, n := range []int{0, 1, 3, len(f.Nodes) - 1} {
		checkNothing(t, what, f, n, 0)
		checkNothing(t, what, f, 0, n)
		checkNothing(t, what, f, n, n)
	}
}

// checkNothing asks all of P3.2 and P3.3 of a or b, of which nothing is to be told.
func checkNothing(t *testing.T, what string, f api.Forest, a, b int) {
	t.Helper()
	if forest.Holds(f, a, b) || forest.Ahead(f, a, b) {
		t.Errorf("%s: Holds or Ahead of %d, %d", what, a, b)
	}
	if forest.Right(f) && 0 <= a && a < len(f.Nodes) {
		return
	}
	if at := forest.Root(f, a); at != api.None {
		t.Errorf("%s: Root(%d) = %d", what, a, at)
	}
	if at := forest.Place(f, a); at != api.None {
		t.Errorf("%s: Place(%d) = %d", what, a, at)
	}
	if l := forest.Order(f, a); len(l) != 0 {
		t.Errorf("%s: Order(%d) = %v", what, a, l)
	}
}

// P3.1: forests that are right, the greatest among them.
func TestRight(t *testing.T) {
	for what, f := range rightForests(t) {
		checkRight(t, what, f, true)
		if !rightByWords(f) {
			t.Errorf("%s: not right by the words", what)
		}
	}
}

// P3.1: how many nodes there are, and may be.
func TestMost(t *testing.T) {
	for _, most := range []int{sample.Least, -400, -1, 0, 1, 2, 20, 21, 22, 399, 400, 401, 402, 1 << 20, sample.Greatest} {
		what := "Most " + strconv.Itoa(most)
		f := grove(t) // of 21 nodes
		f.Most = most
		checkRight(t, what, f, most >= 21 && most <= 400)
		one := newForest(t, 5)
		one.Most = most
		checkRight(t, what+", one Doc", one, most >= 1 && most <= 400)
		checkRight(t, what+", no node", api.Forest{Most: most}, false)
		checkRight(t, what+", no node", api.Forest{Nodes: []api.Node{}, Most: most}, false)
		deep := wide(t, 400)
		deep.Most = most
		checkRight(t, what+", 400 nodes", deep, most == 400)
	}
	f := wide(t, 400)
	f.Nodes = append(f.Nodes, api.Node{Kind: api.Doc, Parent: api.None, Host: api.None, Under: api.None, Doc: 400})
	for _, most := range []int{399, 400, 401, 402} {
		f.Most = most
		checkRight(t, "401 nodes", f, false)
	}
	checkRight(t, "nothing", api.Forest{}, false)
}

// do is a change of one node of a forest.
func do(n int, change func(x *api.Node)) func(f *api.Forest) {
	return func(f *api.Forest) { change(&f.Nodes[n]) }
}

// wrongKinds, wrongKin and wrongShadows are the single ways in which the grove isn't right any more, told by what is done to it.
func wrongKinds() map[string]func(f *api.Forest) {
	return map[string]func(f *api.Forest){
		"node 0 an Elem":          func(f *api.Forest) { *f = headless(0, sample.Elem("p")) },
		"node 0 a Text":           func(f *api.Forest) { *f = headless(0, sample.Text("")) },
		"node 0 a Frag":           func(f *api.Forest) { *f = headless(0, api.Node{Kind: api.Frag}) },
		"node 0 a Frag, of a Doc": func(f *api.Forest) { *f = headless(1, api.Node{Kind: api.Frag}) },
		"Kind 5":                  do(20, func(x *api.Node) { x.Kind, x.Data = 5, "" }),
		"Kind -1":                 do(20, func(x *api.Node) { x.Kind, x.Data = -1, "" }),
		"Doc is none":             do(20, func(x *api.Node) { x.Doc = api.None }),
		"Doc is no node":          do(20, func(x *api.Node) { x.Doc = 21 }),
		"Doc is a Frag":           do(20, func(x *api.Node) { x.Doc = 11 }),
		"Doc is itself, a Text":   do(20, func(x *api.Node) { x.Doc = 20 }),
		"a Doc of another Doc":    do(17, func(x *api.Node) { x.Doc = 0 }),
		"a kid of another Doc":    do(4, func(x *api.Node) { x.Doc = 17 }),
		"a Shade of another Doc":  func(f *api.Forest) { take(f, 17, 12, 7, 10, 13, 9, 8) },
	}
}

func wrongKin() map[string]func(f *api.Forest) {
	return map[string]func(f *api.Forest){
		"Parent is no node":          do(20, func(x *api.Node) { x.Parent = 21 }),
		"Parent is -2":               do(20, func(x *api.Node) { x.Parent = -2 }),
		"Parent doesn't know":        do(20, func(x *api.Node) { x.Parent = 3 }),
		"Parent knows, no Parent":    do(4, func(x *api.Node) { x.Parent = api.None }),
		"Parent forgot":              do(3, func(x *api.Node) { x.Kids = []int{2, 5} }),
		"a Doc with a Parent":        func(f *api.Forest) { f.Nodes[17].Parent, f.Nodes[14].Kids = 14, []int{17} },
		"a Doc with a Parent, of it": func(f *api.Forest) { hang(*f, 18, 17) },
		"a Frag with a Parent":       func(f *api.Forest) { hang(*f, 8, 11) },
		"a Shade with a Parent":      func(f *api.Forest) { hang(*f, 8, 12) },
		"a kid twice":                do(2, func(x *api.Node) { x.Kids = []int{4, 1, 4} }),
		"a kid twice in a row":       do(2, func(x *api.Node) { x.Kids = []int{4, 1, 1} }),
		"a Doc's kid twice":          do(0, func(x *api.Node) { x.Kids = []int{3, 3} }),
		"a kid of two":               do(5, func(x *api.Node) { x.Kids = []int{4} }),
		"a kid of two, both Docs":    do(17, func(x *api.Node) { x.Kids = []int{3} }),
		"a kid that is no node":      do(2, func(x *api.Node) { x.Kids = []int{4, 1, 21} }),
		"a kid that is None":         do(2, func(x *api.Node) { x.Kids = []int{4, 1, -1} }),
		"the greatest kid":           do(2, func(x *api.Node) { x.Kids = []int{sample.Greatest, 4, 1} }),
		"the least kid":              do(2, func(x *api.Node) { x.Kids = []int{sample.Least, 4, 1} }),
		"a Text with a Text":         func(f *api.Forest) { hang(*f, 4, 20) },
		"a Text with an Elem":        func(f *api.Forest) { hang(*f, 20, 14); hang(*f, 11, 15, 16) },
		"a Doc with a Text":          func(f *api.Forest) { hang(*f, 0, 3, 20) },
		"a Doc with a Text alone":    func(f *api.Forest) { hang(*f, 17, 19); f.Nodes[18].Kids = nil },
		"a Doc with two Elems":       func(f *api.Forest) { hang(*f, 0, 3, 14); f.Nodes[11].Kids = []int{15, 16} },
	}
}

func wrongShadows() map[string]func(f *api.Forest) {
	return map[string]func(f *api.Forest){
		"an Elem with a Host":       do(14, func(x *api.Node) { x.Host = 5 }),
		"a Text with a Host":        do(20, func(x *api.Node) { x.Host = 5 }),
		"a Doc with a Host":         do(17, func(x *api.Node) { x.Host = 5 }),
		"a Frag with a Host":        do(11, func(x *api.Node) { x.Host = 5 }),
		"a Frag with a Host, both":  func(f *api.Forest) { f.Nodes[11].Host, f.Nodes[5].Under = 5, 11 },
		"a Host of -2":              do(20, func(x *api.Node) { x.Host = -2 }),
		"a Shade without a Host":    func(f *api.Forest) { f.Nodes[12].Host, f.Nodes[3].Under = api.None, api.None },
		"a Shade that Host forgot":  do(3, func(x *api.Node) { x.Under = api.None }),
		"a Host with another Shade": do(3, func(x *api.Node) { x.Under = 13 }),
		"a Shade of another Host":   do(12, func(x *api.Node) { x.Host = 5 }),
		"a Host that is a Frag":     func(f *api.Forest) { f.Nodes[3].Under, f.Nodes[12].Host, f.Nodes[11].Under = api.None, 11, 12 },
		"a Host that is a Text":     func(f *api.Forest) { f.Nodes[3].Under, f.Nodes[12].Host, f.Nodes[20].Under = api.None, 20, 12 },
		"a Host that is no node":    do(12, func(x *api.Node) { x.Host = 21 }),
		"a Host that is itself":     func(f *api.Forest) { f.Nodes[3].Under, f.Nodes[12].Host, f.Nodes[12].Under = api.None, 12, 12 },
		"an Elem under an Elem":     do(5, func(x *api.Node) { x.Under = 14 }),
		"an Under that is no node":  do(5, func(x *api.Node) { x.Under = 21 }),
		"an Under of -2":            do(5, func(x *api.Node) { x.Under = -2 }),
		"an Under of 0":             do(5, func(x *api.Node) { x.Under = 0 }),
		"a Text with an Under":      do(20, func(x *api.Node) { x.Under = 12 }),
		"a Doc with an Under":       do(17, func(x *api.Node) { x.Under = 12 }),
		"a Frag with an Under":      do(11, func(x *api.Node) { x.Under = 12 }),
		"a Shade with an Under":     do(13, func(x *api.Node) { x.Under = 12 }),
		"two with one Shade":        do(5, func(x *api.Node) { x.Under = 12 }),
	}
}

// P3.1: each of these ways.
func TestWrong(t *testing.T) {
	for _, ways := range []map[string]func(f *api.Forest){wrongKinds(), wrongKin(), wrongShadows()} {
		for what, spoil := range ways {
			f := grove(t)
			spoil(&f)
			if rightByWords(f) {
				t.Errorf("%s: right by the words", what)
			}
			checkRight(t, what, f, false)
		}
	}
}

// take gives nodes to another document, by hand.
func take(f *api.Forest, doc int, nodes ...int) {
	for _, n := range nodes {
		f.Nodes[n].Doc = doc
	}
}

// headless is a forest that begins with another node than a Doc, of the document doc; its Doc comes behind.
func headless(doc int, first api.Node) api.Forest {
	first.Parent, first.Host, first.Under, first.Doc = api.None, api.None, api.None, doc
	return api.Forest{Most: 9, Nodes: []api.Node{first, {Kind: api.Doc, Parent: api.None, Host: api.None, Under: api.None, Doc: 1}}}
}

// P3.1: names, data and attributes, of each kind of node; of the Elems 1 and 14, Texts 4 and 20, a Doc, the Frag and a Shade.
func TestWrongTexts(t *testing.T) {
	isElem, isText := []int{1, 14}, []int{4, 20}
	none := []int{0, 17, 11, 12}
	check := func(what string, right bool, nodes []int, do func(x *api.Node)) {
		t.Helper()
		for _, n := range nodes {
			f := grove(t)
			do(&f.Nodes[n])
			checkRight(t, what+" of "+strconv.Itoa(n), f, right)
		}
	}
	for _, s := range []string{"", "A", "bR", "x-A", "9", "-a", ".a", "a b", " ", "ä", "a\xff", "a\x00", strings.Repeat("a", 41)} {
		check("Name "+s, false, isElem, func(x *api.Node) { x.Name = s })
		check("Is "+s, s == "", isElem, func(x *api.Node) { x.Is = s })
	}
	for _, s := range []string{"a", "_", "_-a", "font-face", "annotation-xml", "div", "x.a", strings.Repeat("a", 40)} {
		check("Name "+s, true, isElem, func(x *api.Node) { x.Name = s })
		check("Is "+s, false, isElem, func(x *api.Node) { x.Is = s })
	}
	for _, s := range []string{"x-a", "x-", "a-.9_-", "x-" + strings.Repeat("a", 38)} {
		check("Name "+s, true, isElem, func(x *api.Node) { x.Name = s })
		check("Is "+s, true, isElem, func(x *api.Node) { x.Is = s })
		check("Name "+s, false, slices.Concat(isText, none), func(x *api.Node) { x.Name = s })
		check("Is "+s, false, slices.Concat(isText, none), func(x *api.Node) { x.Is = s })
	}
	for _, bytes := range []int{0, 1, 199, 200, 201, 1 << 16} {
		set := func(x *api.Node) { x.Data = long(bytes) }
		check("Data", bytes <= 200, isText, set)
		check("Data", bytes == 0, slices.Concat(isElem, none), set)
	}
	wide := func(count int) func(x *api.Node) {
		return func(x *api.Node) { x.Data = strings.Repeat("ä", count) }
	}
	check("Data of 200 bytes", true, isText, wide(100))
	check("Data of 202 bytes", false, isText, wide(101))
	check("Data of any bytes", true, isText, func(x *api.Node) { x.Data = "\x00\xff\xc3\n" })
}

// P3.1: attributes of Elems are right, and all others have none.
func TestWrongAttrs(t *testing.T) {
	var many []api.Attr
	for i := range 41 {
		many = append(many, api.Attr{Name: "n" + strconv.Itoa(i)})
	}
	for what, c := range map[string]struct {
		l     []api.Attr
		right bool
	}{
		"none":      {[]api.Attr{}, true},
		"one":       {[]api.Attr{{Name: "a"}}, true},
		"40":        {many[:40], true},
		"41":        {many, false},
		"capital":   {[]api.Attr{{Name: "A"}}, false},
		"no name":   {[]api.Attr{{}}, false},
		"twice":     {[]api.Attr{{Name: "a"}, {Name: "b"}, {Name: "a"}}, false},
		"200 bytes": {[]api.Attr{{Name: "a", Value: long(200)}}, true},
		"201 bytes": {[]api.Attr{{Name: "a", Value: long(201)}}, false},
	} {
		for n, kind := range map[int]int{0: api.Doc, 11: api.Frag, 12: api.Shade, 4: api.Text, 20: api.Text, 1: api.Elem, 14: api.Elem} {
			f := grove(t)
			f.Nodes[n].Attrs = c.l
			checkRight(t, what+" of "+strconv.Itoa(n), f, c.right && (kind == api.Elem || len(c.l) == 0))
		}
	}
}

// P3.1: ways up that go round, all else being right: by parents, by hosts, by both, short and long.
func TestRings(t *testing.T) {
	self := grove(t)
	hang(self, 14, 14)
	hang(self, 11, 15, 16)
	checkRight(t, "its own child", self, false)

	two := plant(t, newForest(t, 9), sample.Elem("a"), sample.Elem("a"))
	hang(two, 1, 2)
	checkRight(t, "no ring yet", two, true)
	hang(two, 2, 1)
	checkRight(t, "each other's child", two, false)

	shadow := loose(t)
	hang(shadow, 2, 1)
	checkRight(t, "in its own shadow", shadow, false)

	through := grove(t)
	hang(through, 0)
	hang(through, 12, 7, 3, 10)
	checkRight(t, "in its own shadow, among others", through, false)

	hosts := plant(t, newForest(t, 9), sample.Elem("a"), sample.Elem("b"))
	hang(hosts, sample.Cast(&hosts, 1), 2)
	hang(hosts, sample.Cast(&hosts, 2), 1)
	checkRight(t, "each in the other's shadow", hosts, false)

	for _, shadows := range []bool{false, true} {
		for _, count := range []int{3, 4, 9, 20} {
			for n := range count - 1 {
				checkRing(t, chain(t, count, shadows), n+1)
			}
		}
		for _, n := range []int{1, 2, 3, 200, 201, 398, 399} {
			checkRing(t, chain(t, 400, shadows), n)
		}
	}
}

// checkRing cuts a chain ahead of n, if that has a parent, and makes a ring of what comes from there on.
func checkRing(t *testing.T, f api.Forest, n int) {
	t.Helper()
	if f.Nodes[n].Parent == api.None {
		return
	}
	hang(f, f.Nodes[n].Parent)
	f.Nodes[n].Parent = api.None
	what := "from " + strconv.Itoa(n) + " on"
	checkRight(t, "a piece "+what, f, true)
	hang(f, len(f.Nodes)-1, n)
	checkRight(t, "a ring "+what, f, false)
}

// changes are all ways to give one field of one node one of a few values.
func changes(count int) []func(f *api.Forest) {
	var all []func(f *api.Forest)
	add := func(do func(f *api.Forest)) { all = append(all, do) }
	for n := range count {
		for v := -2; v <= count; v++ {
			add(func(f *api.Forest) { f.Nodes[n].Kind = v })
			add(func(f *api.Forest) { f.Nodes[n].Doc = v })
			add(func(f *api.Forest) { f.Nodes[n].Parent = v })
			add(func(f *api.Forest) { f.Nodes[n].Host = v })
			add(func(f *api.Forest) { f.Nodes[n].Under = v })
			add(func(f *api.Forest) { f.Nodes[n].Kids = append(f.Nodes[n].Kids, v) })
		}
		add(func(f *api.Forest) { f.Nodes[n].Kids = nil })
		add(func(f *api.Forest) { slices.Reverse(f.Nodes[n].Kids) })
		add(func(f *api.Forest) { f.Nodes[n].Name = "" })
		add(func(f *api.Forest) { f.Nodes[n].Name = "x" })
		add(func(f *api.Forest) { f.Nodes[n].Is = "x-y" })
		add(func(f *api.Forest) { f.Nodes[n].Data = "" })
		add(func(f *api.Forest) { f.Nodes[n].Data = "d" })
	}
	return all
}

// P3.1: each change of the grove, held against the words.
func TestChanges(t *testing.T) {
	for _, do := range changes(21) {
		f := grove(t)
		do(&f)
		checkRight(t, "changed", f, rightByWords(f))
	}
}

// P3.1: each two changes of a small forest that has each kind of node, held against the words.
func TestChangesByTwos(t *testing.T) {
	f := plant(t, newForest(t, 9), sample.Elem("p"), sample.Text("t"))
	hang(f, 0, 1)
	hang(f, sample.Cast(&f, 1), 2)
	f = plant(t, f, sample.Elem("b"), api.Node{Kind: api.Frag})
	hang(f, 5, 4)
	all := changes(len(f.Nodes))
	right := 0
	for _, do := range all {
		for _, doMore := range all {
			g := sample.Copy(f)
			do(&g)
			doMore(&g)
			want := rightByWords(g)
			if forest.Right(g) != want {
				t.Fatalf("Right = %v: %v", !want, g)
			}
			if want {
				right++
			}
		}
	}
	if right < 100 || right > len(all)*len(all)/2 {
		t.Errorf("%d right of %d: not the forests that were meant", right, len(all)*len(all))
	}
}
