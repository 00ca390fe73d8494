// Package state tells what the layers ask of states: whether each node has one, and which class is a state's.
package state

import (
	"instar/api"
	"instar/desk"
	"instar/forest"
)

// Right tells whether the forest and the desk are right, and each node has a state.
func Right(f api.Forest, states []api.State, d api.Desk) bool {
	return len(states) == len(f.Nodes) && forest.Right(f) && desk.Right(d)
}

// Class answers the class of the state s; false, if it has none. It is the one in the list, not a copy: for those
// who only look at it.
func Class(s api.State, d api.Desk, classes []api.Class) (api.Class, bool) {
	if s.Def < 0 || s.Def >= len(d.Defs) {
		return api.Class{}, false
	}
	at := d.Defs[s.Def].Class
	if at < 0 || at >= len(classes) {
		return api.Class{}, false
	}
	return classes[at], true
}
