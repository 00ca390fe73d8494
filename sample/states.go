package sample

import (
	"slices"

	"instar/api"
)

// State answers the state of a node of this phase and definition, which was told of no form.
func State(phase, def int) api.State { return api.State{Phase: phase, Def: def, Owner: api.None} }

// States answers this state, so often.
func States(count int, s api.State) []api.State { return slices.Repeat([]api.State{s}, count) }

// Moods answers a state of each node of f, as chance has it, the same ones for each seed: of each phase, and of
// what is none, by a definition, or by what is none.
func Moods(f api.Forest, seed int) []api.State {
	c, l := chance(seed), make([]api.State, len(f.Nodes))
	for n := range l {
		phases := []int{-1, api.Plain, api.Open, api.Open, api.Half, api.Custom, api.Custom, api.Custom, api.Failed, api.Failed + 1}
		l[n] = api.State{Phase: phases[c.below(len(phases))], Def: c.below(6) - 2, Owner: c.below(9) - 1, Barred: c.below(2) == 0}
	}
	return l
}

// Gossip answers so many notes, as chance has it, the same ones for each seed: of what is in f, and beside it.
func Gossip(f api.Forest, seed, count int) []api.Note {
	c := chance(seed)
	var l []api.Note
	for range count {
		l = append(l, api.Note{
			Kind: c.below(7) - 1, Node: c.below(len(f.Nodes)+4) - 2, From: c.below(3), To: c.below(3),
			Name: c.pick("", "a", "b", "c", "title", "A"), Had: c.below(2) == 0, Has: c.below(2) == 0, Old: c.pick("", "o"), New: c.pick("", "n"),
		})
	}
	return l
}

// Dressed answers the masked tangle of that seed, its elements with attributes, as chance has it.
func Dressed(seed int) api.Forest {
	c, f := chance(seed), Masked(seed)
	for n := range f.Nodes {
		names := []string{"a", "b", "c", "title"}
		for f.Nodes[n].Kind == api.Elem && len(names) > c.below(5) {
			at := c.below(len(names))
			f.Nodes[n].Attrs = append(f.Nodes[n].Attrs, api.Attr{Name: names[at], Value: c.pick("", "1", "2")})
			names = slices.Delete(names, at, at+1)
		}
	}
	return f
}
