package sample_test

import (
	"slices"
	"testing"

	"instar/api"
	"instar/forest"
	"instar/sample"
)

// States are as many as were asked for, each the one that was meant.
func TestStates(t *testing.T) {
	want := api.State{Phase: api.Custom, Def: 3, Owner: -1}
	if l := sample.States(3, sample.State(api.Custom, 3)); !slices.Equal(l, []api.State{want, want, want}) {
		t.Errorf("not the states that were meant: %v", l)
	}
}

// Moods are the same for each seed, as many as nodes; among them is each phase, and what is none, each place of
// a definition, and what is none.
func TestMoods(t *testing.T) {
	phases, defs, others := map[int]int{}, map[int]int{}, 0
	for seed := range 100 {
		f := sample.Tangle(seed)
		l := sample.Moods(f, seed)
		if len(l) != len(f.Nodes) || !slices.Equal(l, sample.Moods(f, seed)) {
			t.Errorf("not the moods %d, or others when asked for again", seed)
		}
		if !slices.Equal(l, sample.Moods(f, seed+1)) {
			others++
		}
		for _, s := range l {
			phases[s.Phase]++
			defs[s.Def]++
		}
	}
	for phase := -1; phase <= api.Failed+1; phase++ {
		if phases[phase] < 100 || len(phases) != 7 || phases[api.Open] < 300 || phases[api.Custom] < 400 {
			t.Errorf("not the phases that were meant: %v", phases)
		}
	}
	for def := -2; def <= 3; def++ {
		if defs[def] < 200 || len(defs) != 6 || others < 95 {
			t.Errorf("not the definitions that were meant: %v", defs)
		}
	}
}

// Gossip is the same for each seed, of each kind and of what is none, of all nodes and beside them.
func TestGossip(t *testing.T) {
	f := sample.Tangle(1)
	kinds, nodes, names := map[int]int{}, map[int]int{}, map[string]int{}
	l := sample.Gossip(f, 7, 5000)
	if len(l) != 5000 || !slices.Equal(l, sample.Gossip(f, 7, 5000)) || slices.Equal(l, sample.Gossip(f, 8, 5000)) {
		t.Error("not as much as was meant, or not the same for each seed")
	}
	for _, note := range l {
		kinds[note.Kind]++
		nodes[note.Node]++
		names[note.Name]++
	}
	for kind := -1; kind <= 5; kind++ {
		if kinds[kind] < 500 || len(kinds) != 7 {
			t.Errorf("not the kinds that were meant: %v", kinds)
		}
	}
	for n := -2; n < len(f.Nodes)+2; n++ {
		if nodes[n] < 100 || len(nodes) != len(f.Nodes)+4 {
			t.Errorf("not the nodes that were meant: %v", nodes)
		}
	}
	if len(names) != 6 {
		t.Errorf("not the names that were meant: %v", names)
	}
}

// Dressed tangles are right, the same for each seed, and some elements have all the attributes, some none.
func TestDressed(t *testing.T) {
	counts := make([]int, 5)
	for seed := range 100 {
		f := sample.Dressed(seed)
		if !forest.Right(f) || !sample.Same(f, sample.Dressed(seed)) {
			t.Errorf("dressed %d isn't right, or another one when asked for again", seed)
		}
		for n, e := range sample.Masked(seed).Nodes {
			if e.Kind == api.Elem {
				counts[len(f.Nodes[n].Attrs)]++
			}
			e.Attrs = f.Nodes[n].Attrs
			if !sample.SameNode(e, f.Nodes[n]) {
				t.Errorf("dressed %d: the node %d is another one", seed, n)
			}
		}
	}
	if slices.Min(counts) < 30 {
		t.Errorf("not the attributes that were meant: %v", counts)
	}
}

// Who changes a list, or its spare room, is seen.
func TestKept(t *testing.T) {
	l := []int{1, 2}
	for i, c := range []struct {
		kept bool
		call func(l []int)
	}{
		{true, func(l []int) {}},
		{true, func(l []int) { _ = append(slices.Clip(l), 3) }},
		{false, func(l []int) { _ = append(l, 3) }},
		{false, func(l []int) { l[0] = 2 }},
		{false, func(l []int) { l[1] = 0 }},
		{false, func(l []int) { l[:5][4] = 1 }},
	} {
		if sample.Kept(l, c.call) != c.kept || !slices.Equal(l, []int{1, 2}) {
			t.Errorf("%d: not what it is, or the list of who asks is changed", i)
		}
	}
	if !sample.Kept(nil, func(l []int) { l = append(slices.Clip(l), 1) }) {
		t.Error("no list isn't kept")
	}
}
