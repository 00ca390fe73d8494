package move_test

import (
	"strconv"
	"strings"
	"testing"

	"instar/api"
	"instar/move"
	"instar/sample"
)

func set(n int, s, value string) call {
	return func(f api.Forest) (api.Forest, []api.Note, api.Errno) { return move.Set(f, n, s, value) }
}

func unset(n int, s string) call {
	return func(f api.Forest) (api.Forest, []api.Note, api.Errno) { return move.Unset(f, n, s) }
}

func toggle(n int, s string, force int) call {
	return func(f api.Forest) (api.Forest, []api.Note, api.Errno) { return move.Toggle(f, n, s, force) }
}

// checkChange checks what a call does to the grove's node 1, whose attributes are a, 1, and b-c, empty: by
// itself, what becomes of them (as text), and the note.
func checkChange(t *testing.T, what string, do call, attrs string, notes ...api.Note) {
	t.Helper()
	want := deed{f: sample.Grove(), notes: notes}
	want.f.Nodes[1].Attrs = nil
	for _, a := range strings.Fields(attrs) {
		s, value, _ := strings.Cut(a, "=")
		want.f.Nodes[1].Attrs = append(want.f.Nodes[1].Attrs, api.Attr{Name: s, Value: value})
	}
	checkCall(t, what, sample.Grove(), do, want)
}

// changed is a note of the node 1, of an attribute that it had; and of one that it hadn't.
func changed(s, old string, has bool, now string) api.Note {
	return api.Note{Kind: api.Changed, Node: 1, Name: s, Had: true, Has: has, Old: old, New: now}
}

func added(s, now string) api.Note {
	return api.Note{Kind: api.Changed, Node: 1, Name: s, Has: true, New: now}
}

// P6.3: set at its place, or behind all; told, though it was the same; by its small form.
func TestSet(t *testing.T) {
	checkChange(t, "another value", set(1, "a", "2"), "a=2 b-c", changed("a", "1", true, "2"))
	checkChange(t, "the same value", set(1, "a", "1"), "a=1 b-c", changed("a", "1", true, "1"))
	checkChange(t, "an empty value", set(1, "A", ""), "a b-c", changed("a", "1", true, ""))
	checkChange(t, "it was empty", set(1, "B-C", "x"), "a=1 b-c=x", changed("b-c", "", true, "x"))
	checkChange(t, "it was and is empty", set(1, "b-C", ""), "a=1 b-c", changed("b-c", "", true, ""))
	checkChange(t, "a new one", set(1, "Id", "X"), "a=1 b-c id=X", added("id", "X"))
	checkChange(t, "a new one, empty", set(1, "_9", ""), "a=1 b-c _9", added("_9", ""))
	long := strings.Repeat("v", 200)
	checkChange(t, "the longest", set(1, strings.Repeat("N", 40), long), "a=1 b-c "+strings.Repeat("n", 40)+"="+long, added(strings.Repeat("n", 40), long))
}

// P6.3: removed, where it is there; else nothing is done.
func TestUnset(t *testing.T) {
	checkChange(t, "the first", unset(1, "a"), "b-c", changed("a", "1", false, ""))
	checkChange(t, "the last, it was empty", unset(1, "B-c"), "a=1", changed("b-c", "", false, ""))
	checkChange(t, "none", unset(1, "b"), "a=1 b-c")
	checkChange(t, "none by this name", unset(1, "B-C-"), "a=1 b-c")
}

// P6.3: toggled, or only set or removed, by the force.
func TestToggle(t *testing.T) {
	for _, force := range []int{0, -1, -9, sample.Least} {
		checkChange(t, "there", toggle(1, "A", force), "b-c", changed("a", "1", false, ""))
		checkChange(t, "there, empty", toggle(1, "b-c", force), "a=1", changed("b-c", "", false, ""))
	}
	for _, force := range []int{1, 9, sample.Greatest} {
		checkChange(t, "there, to be set", toggle(1, "A", force), "a=1 b-c")
		checkChange(t, "there, empty, to be set", toggle(1, "b-c", force), "a=1 b-c")
	}
	for _, force := range []int{0, 1, 9, sample.Greatest} {
		checkChange(t, "not there", toggle(1, "Q", force), "a=1 b-c q", added("q", ""))
	}
	for _, force := range []int{-1, -9, sample.Least} {
		checkChange(t, "not there, to be removed", toggle(1, "q", force), "a=1 b-c")
	}
}

// full is a forest whose node 1 has 40 attributes, a0 to a39.
func full() api.Forest {
	p := sample.Elem("p")
	for i := range 40 {
		p.Attrs = append(p.Attrs, api.Attr{Name: "a" + strconv.Itoa(i)})
	}
	return sample.Forest(3, p)
}

// P6.3: what may not be: another node than an Elem, ahead of a wrong name, ahead of what is too long.
func TestAttrErrors(t *testing.T) {
	f, long := sample.Grove(), strings.Repeat("v", 201)
	for _, n := range []int{0, 4, 11, 12, 14, 20, 26} {
		for _, s := range []string{"a", "", "9"} {
			for _, do := range []call{set(n, s, ""), set(n, s, long), unset(n, s), toggle(n, s, 0), toggle(n, s, -1)} {
				checkCall(t, "no Elem", f, do, refusedBy(f, api.ErrTree))
			}
		}
	}
	for _, n := range []int{1, 5, 25} {
		for _, s := range []string{"", "9", "-a", "a b", "\u00e4", strings.Repeat("n", 41)} {
			for _, do := range []call{set(n, s, ""), set(n, s, long), unset(n, s), toggle(n, s, 0), toggle(n, s, 1), toggle(n, s, -1)} {
				checkCall(t, "no name", f, do, refusedBy(f, api.ErrName))
			}
		}
		checkCall(t, "too long", f, set(n, "a", long), refusedBy(f, api.ErrLong))
	}
	f = full()
	for _, do := range []call{set(1, "b", ""), set(1, "A40", "x"), toggle(1, "b", 0), toggle(1, "b", 1), set(1, "a0", long)} {
		checkCall(t, "too many", f, do, refusedBy(f, api.ErrLong))
	}
	checkCall(t, "full", f, set(1, "A39", "x"), changeByWords(f, 1, "a39", "x", true))
	checkCall(t, "full", f, toggle(1, "A0", 0), changeByWords(f, 1, "a0", "", false))
	for _, do := range []call{unset(1, "b"), toggle(1, "b", -1), toggle(1, "a7", 1)} {
		checkCall(t, "full, nothing done", f, do, deed{f: f})
	}
}

// P6.3: who isn't there has no attributes, ahead of all.
func TestAttrsOfNobody(t *testing.T) {
	for what, f := range sample.Right() {
		for _, n := range sample.WrongNumbers(f) {
			for _, do := range []call{set(n, "a", ""), set(n, "9", ""), unset(n, "a"), unset(n, "9"), toggle(n, "a", 0), toggle(n, "9", -1)} {
				checkCall(t, what, f, do, refusedBy(f, api.ErrArg))
			}
		}
	}
}

// P6.3: each way to change an attribute, of each node of small forests, in its own document and in another.
func TestAttrsByWords(t *testing.T) {
	for what, f := range sample.Meadows() {
		for n, node := range f.Nodes {
			if node.Kind != api.Elem {
				continue
			}
			f.Nodes[n].Attrs = []api.Attr{{Name: "x", Value: "1"}, {Name: "a"}, {Name: "y", Value: "2"}}
			checkCall(t, what, f, set(n, "A", "3"), changeByWords(f, n, "a", "3", true))
			checkCall(t, what, f, set(n, "Z", "3"), changeByWords(f, n, "z", "3", true))
			checkCall(t, what, f, unset(n, "X"), changeByWords(f, n, "x", "", false))
			checkCall(t, what, f, unset(n, "Z"), deed{f: f})
			checkCall(t, what, f, toggle(n, "Y", 0), changeByWords(f, n, "y", "", false))
			checkCall(t, what, f, toggle(n, "Z", 0), changeByWords(f, n, "z", "", true))
		}
	}
}
