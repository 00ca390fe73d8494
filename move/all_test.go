package move_test

import (
	"strconv"
	"testing"

	"instar/api"
	"instar/forest"
	"instar/move"
	"instar/sample"
)

// children answers whom to tell as the child under p: None, each of p's, and some that aren't p's.
func children(f api.Forest, n, p int) []int {
	return append([]int{api.None, n, p, 0, len(f.Nodes) - 1}, f.Nodes[p].Kids...)
}

// checkAll checks each step there is of these nodes of f, and each that there isn't.
func checkAll(t *testing.T, what string, f api.Forest, some []int) {
	t.Helper()
	for _, n := range some {
		checkCall(t, what+": remove "+strconv.Itoa(n), f, remove(n), removeByWords(f, n))
		for _, p := range some {
			for _, child := range children(f, n, p) {
				step := " " + strconv.Itoa(n) + ", " + strconv.Itoa(p) + ", " + strconv.Itoa(child)
				checkCall(t, what+": insert"+step, f, insert(n, p, child), insertByWords(f, n, p, child))
				checkCall(t, what+": replace"+step, f, replace(n, p, child), replaceByWords(f, n, p, child))
			}
		}
	}
}

// every answers the numbers of all of f's nodes.
func every(f api.Forest) []int {
	var l []int
	for n := range f.Nodes {
		l = append(l, n)
	}
	return l
}

// P6.1, P6.2, P6.4: all steps of small forests, by the chapter's words.
func TestWords(t *testing.T) {
	for what, f := range sample.Meadows() {
		checkAll(t, what, f, every(f))
	}
}

// P6.1, P6.2, P6.4: a few steps of the greatest forests, whole trees to another document among them.
func TestGreat(t *testing.T) {
	for what, f := range sample.Great() {
		checkAll(t, what, f, []int{0, 1, 2, 3, 200, 397, 398, 399})
	}
	wide := sample.Great()["wide Frag"]
	wide.Nodes[2].Under, wide.Nodes[3] = api.None, api.Node{Kind: api.Elem, Name: "p", Parent: 399, Host: api.None, Under: api.None, Doc: 399}
	wide.Nodes[399].Kids = []int{3}
	checkCall(t, "a great Frag elsewhere", wide, insert(1, 3, api.None), insertByWords(wide, 1, 3, api.None))
	if _, notes, err := move.Insert(wide, 1, 3, api.None); err != api.OK || len(notes) < 390 {
		t.Errorf("a great Frag elsewhere: %d notes, %d", len(notes), err)
	}
}

// P6.1 to P6.3: nothing is done where the forest isn't right, or somebody isn't there; and None is nobody.
func TestNobody(t *testing.T) {
	for what, f := range sample.Wrong() {
		for n := -1; n <= len(f.Nodes); n++ {
			for _, do := range []call{
				insert(26, n, api.None), insert(n, 3, api.None), insert(26, 3, n), replace(26, n, 6), replace(n, 3, 6), replace(26, 3, n),
				remove(n), set(n, "a", ""), unset(n, "a"), toggle(n, "a", 0), set(n, "9", ""), unset(n, "9"), toggle(n, "9", 0),
			} {
				checkCall(t, what, f, do, refusedBy(f, api.ErrArg))
			}
		}
	}
	for what, f := range sample.Right() {
		for _, wrong := range sample.WrongNumbers(f) {
			calls := []call{remove(wrong), insert(wrong, 0, api.None), insert(0, wrong, api.None), replace(wrong, 0, api.None), replace(0, wrong, api.None)}
			if wrong != api.None {
				calls = append(calls, insert(0, 0, wrong), replace(0, 0, wrong))
			}
			for _, do := range calls {
				checkCall(t, what, f, do, refusedBy(f, api.ErrArg))
			}
		}
	}
}

// book is what one who hears all notes knows of the elements.
type book struct {
	came  map[int]int
	docs  map[int]int
	attrs map[string]string
}

// open answers the book of f, in which nobody has an attribute.
func open(f api.Forest) book {
	b := book{came: map[int]int{}, docs: map[int]int{}, attrs: map[string]string{}}
	for n, is := range connected(f) {
		b.came[n], b.docs[n] = is, f.Nodes[n].Doc
	}
	return b
}

// hear checks that the notes go on from what is known.
func (b book) hear(t *testing.T, what string, notes []api.Note) {
	t.Helper()
	for _, note := range notes {
		switch note.Kind {
		case api.Came:
			b.came[note.Node]++
		case api.Went:
			b.came[note.Node]--
		case api.Moved:
			if b.docs[note.Node] != note.From {
				t.Errorf("%s: %v, but it was in %d", what, note, b.docs[note.Node])
			}
			b.docs[note.Node] = note.To
		case api.Changed:
			key := strconv.Itoa(note.Node) + " " + note.Name
			old, had := b.attrs[key]
			if old != note.Old || had != note.Had || !note.Has && note.New != "" {
				t.Errorf("%s: %v, but it was %q, %v", what, note, old, had)
			}
			b.attrs[key] = note.New
			if !note.Has {
				delete(b.attrs, key)
			}
		}
		if is := b.came[note.Node]; is != 0 && is != 1 {
			t.Errorf("%s: %v, and is there %d times", what, note, is)
		}
	}
}

// holds checks that the book knows how f is.
func (b book) holds(t *testing.T, what string, f api.Forest) {
	t.Helper()
	known := 0
	for n, is := range connected(f) {
		if f.Nodes[n].Kind != api.Elem {
			continue
		}
		if b.came[n] != is || b.docs[n] != f.Nodes[n].Doc {
			t.Errorf("%s: %d is told to be connected %d times, in %d; it is %d times, in %d", what, n, b.came[n], b.docs[n], is, f.Nodes[n].Doc)
		}
		for _, a := range f.Nodes[n].Attrs {
			known++
			if value, has := b.attrs[strconv.Itoa(n)+" "+a.Name]; !has || value != a.Value {
				t.Errorf("%s: of %d is told %s %q, it is %q", what, n, a.Name, value, a.Value)
			}
		}
	}
	if known != len(b.attrs) {
		t.Errorf("%s: %d attributes are told of, there are %d", what, len(b.attrs), known)
	}
}

// dice answers numbers without an order to be seen, the same ones for each start.
type dice uint64

func (d *dice) below(n int) int {
	*d = *d*6364136223846793005 + 1442695040888963407
	return int(*d>>33) % n
}

// pick answers a call by chance, of nodes of f; more often than not one that may be.
func (d *dice) pick(f api.Forest) call {
	count := len(f.Nodes)
	n, p, child := d.below(count), d.below(count), api.None
	if kids := f.Nodes[p].Kids; len(kids) > 0 && d.below(4) > 0 {
		child = kids[d.below(len(kids))]
	}
	s := []string{"a", "A", "b", "B-c"}[d.below(4)]
	switch d.below(7) {
	case 0, 1:
		return insert(n, p, child)
	case 2:
		return replace(n, p, child)
	case 3:
		return remove(n)
	case 4:
		return set(n, s, strconv.Itoa(d.below(3)))
	case 5:
		return unset(n, s)
	}
	return toggle(n, s, d.below(5)-2)
}

// P6.4: through many steps, one on the other, the notes tell how all is; the forest is right at each.
func TestLives(t *testing.T) {
	done, told := 0, make([]int, 5)
	for seed := range 60 {
		f, d, what := sample.Tangle(seed), dice(seed), "tangle "+strconv.Itoa(seed)
		b := open(f)
		for range 150 {
			g, notes, err := d.pick(f)(f)
			if err != api.OK && (len(notes) > 0 || !sample.Same(f, g)) || !forest.Right(g) {
				t.Fatalf("%s: with the error %d came to %v, told %v", what, err, g, notes)
			}
			if err == api.OK {
				done++
			}
			for _, note := range notes {
				told[note.Kind]++
			}
			f = g
			b.hear(t, what, notes)
			b.holds(t, what, f)
		}
	}
	if done < 3000 || min(told[api.Came], told[api.Went], told[api.Moved], told[api.Changed]) < 100 {
		t.Errorf("only %d steps were done, and notes told %v", done, told)
	}
}
