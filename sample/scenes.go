package sample

import (
	"slices"

	"instar/api"
	"instar/desk"
	"instar/forest"
)

// Scene is all with which it is asked what elements are to be told.
type Scene struct {
	Forest  api.Forest
	States  []api.State
	Desk    api.Desk
	Classes []api.Class
}

// Right tells whether the forest and the desk are right, and there are as many states as nodes.
func (s Scene) Right() bool {
	return forest.Right(s.Forest) && desk.Right(s.Desk) && len(s.States) == len(s.Forest.Nodes)
}

// With answers s in memory of its own, with this change.
func (s Scene) With(change func(s *Scene)) Scene {
	s = Scene{Copy(s.Forest), slices.Clone(s.States), CopyDesk(s.Desk), CopyClasses(s.Classes)}
	change(&s)
	return s
}

// Touched answers what a call changes of the scene that it is given, spare room and all: "" is nothing.
func (s Scene) Touched(call func(s Scene)) string {
	// Each time the call gets a copy but for what is looked at: else a change would be there already when it is
	// looked for.
	if !Untouched(s.Forest, func(f api.Forest) { call(s.With(func(s *Scene) { s.Forest = f })) }) {
		return "the forest"
	}
	if !Kept(s.States, func(l []api.State) { call(s.With(func(s *Scene) { s.States = l })) }) {
		return "the states"
	}
	if _, careful := AskDesk(s.Desk, func(d api.Desk) api.Desk { call(s.With(func(s *Scene) { s.Desk = d })); return api.Desk{} }); !careful {
		return "the desk"
	}
	if _, _, fault := AskClasses(s.Classes, func(l []api.Class) ([]api.Class, []api.Op) {
		call(s.With(func(s *Scene) { s.Classes = l }))
		return nil, nil
	}); fault != "" {
		return "the classes"
	}
	return ""
}

// Scenes answers scenes with all forests and desks that there are here, right ones and wrong ones; each has as many
// states as nodes.
func Scenes() map[string]Scene {
	all := map[string]Scene{}
	for seed, forests := range []map[string]api.Forest{Right(), Wrong()} {
		for what, f := range forests {
			all[what] = Scene{f, Moods(f, seed), Desk(), Classes()}
		}
	}
	for seed, desks := range []map[string]api.Desk{RightDesks(), WrongDesks()} {
		for what, d := range desks {
			all["desk: "+what] = Scene{Clan(), Moods(Clan(), seed), d, Classes()}
		}
	}
	return all
}

// Party answers a scene that chance has put together, the same one for each seed: elements with attributes, and
// classes that hear of what befalls them.
func Party(seed int) Scene {
	f := Dressed(seed)
	return Scene{f, Moods(f, seed), Office(seed), Guild(seed)}
}

// Shift answers a scene that chance has put together, the same one for each seed: a bureau's elements, and classes
// most of which are for forms, and hear of what befalls those. Sometimes a definition's class isn't there.
func Shift(seed int) Scene {
	f := Bureau(seed)
	return Scene{f, Moods(f, seed), Office(seed), Crew(seed)}
}
