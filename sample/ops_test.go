package sample_test

import (
	"slices"
	"strings"
	"testing"

	"instar/api"
	"instar/sample"
)

// Each Kind has the fields of the document's table, in its order; what is no Kind has none.
func TestFields(t *testing.T) {
	short := map[string]string{"node A": "a", "node B": "b", "node or none C": "x", "node C": "c", "number A": "n", "number B": "m", "text S": "s", "text T": "t"}
	got := ""
	for kind := range 31 {
		for _, field := range sample.Fields(kind - 1) {
			got += short[field]
		}
		got += " "
	}
	want := "  ast ast as a a abx a abx ast as ams amc ab a a nst s a n  a  a as  abx a ast  "
	if got != want {
		t.Errorf("not the fields that were meant: %q", got)
	}
}

// A field's name tells where it is.
func TestFieldsAt(t *testing.T) {
	o := api.Op{A: 1, B: 2, C: 3, S: "s", T: "t"}
	if *sample.NumberAt(&o, "node A") != 1 || *sample.NumberAt(&o, "number B") != 2 || *sample.NumberAt(&o, "node or none C") != 3 {
		t.Error("not the numbers that were meant")
	}
	if *sample.TextAt(&o, "text S") != "s" || *sample.TextAt(&o, "text T") != "t" {
		t.Error("not the texts that were meant")
	}
}

// Operations are the same for each seed; all Kinds and all that may stand in a field come often.
func TestRightOps(t *testing.T) {
	kinds, found := make([]int, 29), map[string]int{}
	for seed := range 3000 {
		o := sample.RightOp(seed, 9)
		if o != sample.RightOp(seed, 9) {
			t.Fatalf("%d: another one when asked for again", seed)
		}
		kinds[o.Kind]++
		fields := sample.Fields(o.Kind)
		for what, so := range map[string]bool{
			"thrown": o.Must, "not thrown": !o.Must, "quotes": strings.Contains(o.S+o.T, `"\`), "a long text": len(o.S) == 200 || len(o.T) == 200,
			"none": o.C == api.None, "a node, not none": slices.Contains(fields, "node or none C") && o.C >= 0,
			"self": o.A == api.Self && o.Kind != api.DefineOp, "last": o.A == api.Last && o.Kind != api.DefineOp, "a great number": o.B > 9, "a small one": o.B < -9,
			"no text": slices.Contains(fields, "text S") && o.S == "",
		} {
			if so {
				found[what]++
			}
		}
		for _, field := range []string{"node A", "node B", "node C", "node or none C"} {
			if n := *sample.NumberAt(&o, field); slices.Contains(fields, field) && (n >= 9 || n < api.Last) {
				t.Errorf("%d: no node: %v", seed, o)
			}
		}
	}
	if kinds[0] != 0 || slices.Min(kinds[1:]) < 50 {
		t.Errorf("not all Kinds, or not often: %v", kinds)
	}
	for _, what := range []string{"thrown", "not thrown", "quotes", "a long text", "none", "a node, not none", "self", "last", "a great number", "a small one", "no text"} {
		if found[what] < 15 {
			t.Errorf("seldom there: %s, %d", what, found[what])
		}
	}
}
