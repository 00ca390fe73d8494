package sample_test

import (
	"slices"
	"testing"

	"instar/api"
	"instar/desk"
	"instar/forest"
	"instar/sample"
)

// scene is one with some of all.
func scene() sample.Scene {
	return sample.Scene{Forest: sample.Grove(), States: sample.Moods(sample.Grove(), 1), Desk: sample.Desk(), Classes: sample.Classes()}
}

// sameScene tells whether two scenes are the same.
func sameScene(a, b sample.Scene) bool {
	return sample.Same(a.Forest, b.Forest) && slices.Equal(a.States, b.States) && sample.SameDesk(a.Desk, b.Desk) && sample.SameClasses(a.Classes, b.Classes)
}

// Scenes are those with the forests and the desks that there are, with states and classes.
func TestScenes(t *testing.T) {
	all := sample.Scenes()
	if len(all) != len(sample.Right())+len(sample.Wrong())+len(sample.RightDesks())+len(sample.WrongDesks()) {
		t.Errorf("there are %d", len(all))
	}
	for what, f := range sample.Wrong() {
		if s := all[what]; !sample.Same(s.Forest, f) || s.Right() {
			t.Errorf("%s: isn't there, or is right", what)
		}
	}
	for what, d := range sample.WrongDesks() {
		if s := all["desk: "+what]; !sample.SameDesk(s.Desk, d) || s.Right() {
			t.Errorf("%s: isn't there, or is right", what)
		}
	}
	for what, s := range all {
		if len(s.States) != len(s.Forest.Nodes) || len(s.Classes) != 5 || s.Right() != (forest.Right(s.Forest) && desk.Right(s.Desk)) {
			t.Errorf("%s: not the scene that was meant", what)
		}
	}
}

// A scene is right with as many states as nodes, not with one more, nor one less.
func TestSceneRight(t *testing.T) {
	if !scene().Right() {
		t.Error("it isn't right")
	}
	for i, change := range []func(s *sample.Scene){
		func(s *sample.Scene) { s.States = s.States[1:] },
		func(s *sample.Scene) { s.States = append(s.States, api.State{}) },
		func(s *sample.Scene) { s.Desk.Next = -1 },
		func(s *sample.Scene) { s.Forest.Most = 0 },
	} {
		if scene().With(change).Right() {
			t.Errorf("with the change %d it is right", i)
		}
	}
}

// Parties and shifts are right, the same for each seed, and others for others.
func TestChanceScenes(t *testing.T) {
	phases, others, lacking := map[int]int{}, 0, 0
	for what, scene := range map[string]func(seed int) sample.Scene{"party": sample.Party, "shift": sample.Shift} {
		for seed := range 100 {
			s := scene(seed)
			if !s.Right() || !sameScene(s, scene(seed)) {
				t.Errorf("the %s %d isn't right, or another one when asked for again", what, seed)
			}
			if !sameScene(s, scene(seed+1)) {
				others++
			}
			for n, e := range s.Forest.Nodes {
				if e.Kind == api.Elem {
					phases[s.States[n].Phase]++
				}
			}
			if slices.ContainsFunc(s.Desk.Defs, func(d api.Def) bool { return d.Class >= len(s.Classes) }) {
				lacking++
			}
		}
	}
	if len(phases) != 7 || phases[api.Custom] < 500 || others < 190 || lacking < 20 {
		t.Errorf("not the scenes that were meant: %v, %d others, %d lack a class", phases, others, lacking)
	}
}

// sceneChanges are ways to change a scene, in what it has and in its spare room, by what it is that they change.
func sceneChanges() map[string][]func(s sample.Scene) {
	return map[string][]func(s sample.Scene){
		"the forest":  {func(s sample.Scene) { s.Forest.Nodes[5].Name = "u" }, func(s sample.Scene) { _ = append(s.Forest.Nodes, api.Node{}) }},
		"the states":  {func(s sample.Scene) { s.States[3].Owner = 77 }, func(s sample.Scene) { _ = append(s.States, api.State{Def: 1}) }},
		"the desk":    {func(s sample.Scene) { s.Desk.Defs[0].Class = 7 }, func(s sample.Scene) { _ = append(s.Desk.Waits, api.Wait{}) }},
		"the classes": {func(s sample.Scene) { s.Classes[1].Hooks[0].Kind = 7 }, func(s sample.Scene) { _ = append(s.Classes, api.Class{Form: true}) }},
	}
}

// Who changes something of a scene is told what.
func TestTouched(t *testing.T) {
	if s := scene().Touched(func(s sample.Scene) {
		s.Forest.Most, s.Desk.Next = 7, 9
		s.States = append(slices.Clip(s.States), api.State{})
	}); s != "" {
		t.Errorf("nothing is changed, but %s is told", s)
	}
	for what, changes := range sceneChanges() {
		for i, change := range changes {
			if s := scene().Touched(change); s != what {
				t.Errorf("%s, %d: told %q", what, i, s)
			}
		}
	}
}

// A scene with a change is another one: the first one stays as it is.
func TestWith(t *testing.T) {
	for what, changes := range sceneChanges() {
		s := scene()
		if other := s.With(func(s *sample.Scene) { changes[0](*s) }); sameScene(s, other) || !sameScene(s, scene()) {
			t.Errorf("%s: isn't changed, or is in both", what)
		}
	}
	if !sameScene(scene(), scene().With(func(s *sample.Scene) {})) {
		t.Error("changed without a change")
	}
}
