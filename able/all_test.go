package able_test

import (
	"slices"
	"strconv"
	"strings"
	"testing"

	"instar/able"
	"instar/api"
	"instar/forest"
	"instar/move"
	"instar/sample"
)

// P14.1: all kinds of forests, against the chapter's words; they stay as they are.
func TestWords(t *testing.T) {
	for what, f := range sample.Papers() {
		if !sample.Untouched(f, func(f api.Forest) {
			if l := able.All(f); !slices.Equal(l, allByWords(f)) {
				t.Errorf("%s: All is %v, not %v", what, l, allByWords(f))
			}
			for _, n := range append(sample.Some(f), sample.WrongNumbers(f)...) {
				if at := able.Legend(f, n); at != legendByWords(f, n) {
					t.Errorf("%s: Legend(%d) = %d, not %d", what, n, at, legendByWords(f, n))
				}
				if able.Barred(f, n) != barredByWords(f, n) {
					t.Errorf("%s: Barred(%d) isn't %t", what, n, barredByWords(f, n))
				}
			}
		}) {
			t.Errorf("%s: changed what was handed in", what)
		}
	}
}

// P14.1: who stands where decides: taken out of a fieldset, whoever was barred by that alone is free.
func TestTakenOut(t *testing.T) {
	freed := 0
	for seed := range 300 {
		f := sample.Bureau(seed)
		before := able.All(f)
		for _, n := range before {
			g, _, err := move.Remove(f, n)
			if err != api.OK {
				continue
			}
			after := able.All(g)
			if slices.Contains(after, n) != isDisabled(g, n) {
				t.Errorf("%d: %d is loose, and barred: %t", seed, n, !isDisabled(g, n))
			}
			freed += len(before) - len(after)
		}
	}
	if freed < 100 {
		t.Errorf("only %d were freed", freed)
	}
}

// undisabled answers f without attributes disabled.
func undisabled(f api.Forest) api.Forest {
	g := sample.Copy(f)
	for n, node := range g.Nodes {
		g.Nodes[n].Attrs = slices.DeleteFunc(node.Attrs, func(a api.Attr) bool { return a.Name == "disabled" })
	}
	return g
}

// P14.2: without attributes disabled nobody is barred.
func TestNobody(t *testing.T) {
	before := 0
	for what, f := range sample.Papers() {
		before += len(able.All(f))
		g := undisabled(f)
		if l := able.All(g); len(l) != 0 {
			t.Errorf("%s: All is %v", what, l)
		}
		for _, n := range sample.Some(g) {
			if able.Barred(g, n) {
				t.Errorf("%s: %d is barred", what, n)
			}
		}
	}
	if before < 1000 {
		t.Errorf("only %d were barred with them", before)
	}
}

// P14.2: one attribute disabled more frees nobody, and bars at least who has it.
func TestOneMore(t *testing.T) {
	more := 0
	for seed := range 1000 {
		f := sample.Bureau(seed)
		before := able.All(f)
		for n, e := range f.Nodes {
			if e.Kind != api.Elem || isDisabled(f, n) {
				continue
			}
			g, _, err := move.Set(f, n, "disabled", "")
			if err != api.OK {
				t.Fatalf("%d: %d can't be disabled: %d", seed, n, err)
			}
			after := able.All(g)
			for _, at := range append(before, n) {
				if !slices.Contains(after, at) || !able.Barred(g, at) {
					t.Errorf("%d: %d is disabled, and %d isn't barred", seed, n, at)
				}
			}
			more += len(after) - len(before)
			if !slices.Contains(before, n) {
				more--
			}
		}
	}
	if more < 100 {
		t.Errorf("only %d were barred by others", more)
	}
}

// Among the chance forests there are many who are barred by a fieldset alone, and many whom a legend frees.
func TestBureaus(t *testing.T) {
	shut, freed := 0, 0
	for seed := range 1000 {
		f := sample.Bureau(seed)
		for n, e := range f.Nodes {
			if e.Kind != api.Elem || isDisabled(f, n) {
				continue
			}
			switch {
			case isBarred(f, n):
				shut++
			case slices.ContainsFunc(under(f, n), func(up int) bool { return isElem(f, up, "fieldset") && isDisabled(f, up) }):
				freed++
			}
		}
	}
	if shut < 500 || freed < 80 {
		t.Errorf("only %d are barred by fieldsets, and %d freed by legends", shut, freed)
	}
}

// P14.1: an answer is the caller's own: who changes it changes no other one, nor what was handed in.
func TestOwn(t *testing.T) {
	s := `<fieldset disabled=""><legend></legend><i></i><b></b></fieldset>`
	f := sample.Rooted(s)
	for range 2 {
		l := able.All(f)
		if !slices.Equal(l, []int{1, 3, 4}) {
			t.Errorf("All is %v", l)
		}
		l = l[:cap(l)]
		for i := range l {
			l[i] = 999
		}
	}
	if !sample.Same(f, sample.Rooted(s)) {
		t.Error("what was handed in has changed")
	}
}

// laden gives each Elem of f as many attributes as there may be, with long names and values, and disabled as
// the last one; all are fieldsets.
func laden(f api.Forest) api.Forest {
	for n := range f.Nodes {
		e := &f.Nodes[n]
		if e.Kind != api.Elem {
			continue
		}
		e.Name = "fieldset"
		for i := range api.MaxAttrs - 1 {
			e.Attrs = append(e.Attrs, api.Attr{Name: strings.Repeat("n", 38) + strconv.Itoa(10+i), Value: strings.Repeat("v", api.MaxValue)})
		}
		e.Attrs = append(e.Attrs, api.Attr{Name: "disabled", Value: strings.Repeat("d", api.MaxValue)})
	}
	return f
}

// P14.1, P14.2: the greatest forests, whose Elems have as many attributes as there may be, with the longest
// names and values.
func TestGreatest(t *testing.T) {
	wide := sample.Wide(api.MaxNodes)
	sample.Hang(wide, 0, 1)
	for what, f := range map[string]api.Forest{"deepest": sample.Chain(api.MaxNodes, false), "deepest shadows": sample.Chain(api.MaxNodes, true), "widest": wide} {
		f := laden(f)
		if !forest.Right(f) {
			t.Fatalf("%s: isn't right", what)
		}
		var elems []int
		for n, e := range f.Nodes {
			if e.Kind == api.Elem {
				elems = append(elems, n)
			}
		}
		check := func(how string, want []int) {
			if l := able.All(f); !slices.Equal(l, want) {
				t.Errorf("%s, %s: All is %v, not %v", what, how, l, want)
			}
		}
		check("disabled", elems)
		for _, n := range elems[1:] {
			f.Nodes[n].Attrs = f.Nodes[n].Attrs[:api.MaxAttrs-1]
		}
		check("the first one disabled", allByWords(f))
		f.Nodes[elems[0]].Attrs = f.Nodes[elems[0]].Attrs[:api.MaxAttrs-1]
		check("nobody disabled", nil)
	}
}

// P14.1: in the deepest forest whoever is barred at its upper end bars down to its lower one, but for a legend.
func TestDeep(t *testing.T) {
	f := sample.Chain(api.MaxNodes, false)
	f.Nodes[1].Name, f.Nodes[1].Attrs = "fieldset", []api.Attr{{Name: "disabled"}}
	if l := able.All(f); len(l) != api.MaxNodes-1 || !able.Barred(f, api.MaxNodes-1) {
		t.Errorf("All is %v", l)
	}
	f.Nodes[2].Name = "legend"
	if l := able.All(f); !slices.Equal(l, []int{1}) || able.Legend(f, 1) != 2 || able.Barred(f, api.MaxNodes-1) {
		t.Errorf("with a legend All is %v", l)
	}
	f.Nodes[2].Name, f.Nodes[3].Name = "p", "legend"
	if l := able.All(f); len(l) != api.MaxNodes-1 || able.Legend(f, 2) != 3 {
		t.Errorf("with a legend further down All is %v", l)
	}
}
