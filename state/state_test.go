package state_test

import (
	"testing"

	"instar/api"
	"instar/desk"
	"instar/forest"
	"instar/sample"
	"instar/state"
)

// It is right where the forest is, the desk is, and there are as many states as nodes: not one more, nor one less.
func TestRight(t *testing.T) {
	right, wrong := 0, 0
	for what, s := range sample.Scenes() {
		want := forest.Right(s.Forest) && desk.Right(s.Desk)
		if state.Right(s.Forest, s.States, s.Desk) != want {
			t.Errorf("%s: isn't %t", what, want)
		}
		if want {
			right++
		} else {
			wrong++
		}
		count := len(s.States)
		for _, l := range [][]api.State{nil, s.States[:max(count-1, 0)], append(s.States[:count:count], api.State{})} {
			if len(l) != count && state.Right(s.Forest, l, s.Desk) {
				t.Errorf("%s: of %d nodes, %d states are right", what, count, len(l))
			}
		}
	}
	if right < 20 || wrong < 50 {
		t.Errorf("only %d are right, %d wrong", right, wrong)
	}
}

// A state's class is the one in the list, whatever else the state tells, and whether or not the desk is right.
func TestClass(t *testing.T) {
	classes := sample.Classes()
	for what, d := range map[string]api.Desk{
		"right": {Defs: []api.Def{{Name: "x-a", Local: "x-a", Class: 2}, {Name: "x-b", Local: "x-b"}, {Name: "x-c", Local: "x-c", Class: 5}, {Name: "x-d", Local: "x-d", Class: 4}}},
		"wrong": {Defs: []api.Def{{Class: 2}, {}, {Class: -1}, {Class: 4}}, Next: -1},
	} {
		for def, want := range map[int]int{0: 2, 1: 0, 2: -1, 3: 4, 4: -1, -1: -1, sample.Least: -1, sample.Greatest: -1} {
			for phase := -1; phase <= 5; phase++ {
				c, ok := state.Class(api.State{Phase: phase, Def: def, Owner: 7, Barred: true}, d, classes)
				if ok != (want != -1) || ok && !sample.SameClass(c, classes[want]) || !ok && !sample.SameClass(c, api.Class{}) {
					t.Errorf("%s: of %d it is %v, %t, not the one at %d", what, def, c, ok, want)
				}
			}
		}
	}
	if c, ok := state.Class(api.State{}, sample.Desk(), nil); ok || !sample.SameClass(c, api.Class{}) {
		t.Errorf("of no classes it is %v, %t", c, ok)
	}
}

// It isn't copied: who only looks at a class needn't wait for that.
func TestNoCopy(t *testing.T) {
	classes := sample.Classes()
	if c, ok := state.Class(api.State{Def: 1}, sample.Desk(), classes); !ok || &c.Hooks[0] != &classes[0].Hooks[0] {
		t.Errorf("another one than that of the list: %v, %t", c, ok)
	}
}
