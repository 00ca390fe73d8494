package fate_test

import (
	"testing"

	"instar/api"
	"instar/fate"
	"instar/heir"
	"instar/sample"
)

// Of each node of the clan it is what is told of it where it stands.
func TestOf(t *testing.T) {
	f, found := sample.Clan(), 0
	for seed := range 50 {
		d := sample.Office(seed)
		for n, e := range f.Nodes {
			at := fate.Of(e, d)
			if want := heir.Fate(f, n, d); at != want {
				t.Errorf("%d: of %d: %d, not %d", seed, n, at, want)
			}
			if at != api.None {
				found++
			}
		}
	}
	if found < 100 {
		t.Errorf("only %d have a fate", found)
	}
}

// Nothing of the element counts but its kind, name, Is and document; nor who waits.
func TestAlone(t *testing.T) {
	d := sample.Desk()
	for want, e := range map[int]api.Node{0: sample.Elem("x-a"), 1: sample.ElemIs("button", "x-c")} {
		e.Parent, e.Kids, e.Host, e.Under = sample.Greatest, []int{sample.Least}, -7, 999
		if at := fate.Of(e, d); at != want {
			t.Errorf("of %v: %d", e, at)
		}
		if at := fate.Of(e, api.Desk{Defs: d.Defs}); at != want {
			t.Errorf("nobody waits: of %v: %d", e, at)
		}
		if at := fate.Of(sample.Of(1, e), d); at != api.None {
			t.Errorf("of %v of another document: %d", e, at)
		}
		for _, kind := range []int{api.Doc, api.Text, api.Frag, api.Shade, 5, -1} {
			e.Kind = kind
			if at := fate.Of(e, d); at != api.None {
				t.Errorf("of %v: %d", e, at)
			}
		}
	}
	if at := fate.Of(sample.Elem("x-b"), d); at != api.None {
		t.Errorf("of who waits: %d", at)
	}
	if !sample.SameDesk(d, sample.Desk()) {
		t.Error("changed the desk that was handed in")
	}
}
