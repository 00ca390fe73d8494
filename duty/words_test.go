package duty_test

import (
	"slices"

	"instar/able"
	"instar/api"
	"instar/owner"
	"instar/sample"
	"instar/watch"
)

// What the chapter says, in its words one by one, for the tests to hold the answers against. Who is asked with
// a small letter knows whether all is right.

// asked is all that is asked with, and whether it is right.
type asked struct {
	sample.Scene
	right bool
}

func ask(s sample.Scene) asked { return asked{s, s.Right()} }

// formClass answers the class of the form's element n; false, if n is none.
func (a asked) formClass(n int) (api.Class, bool) {
	if n < 0 || n >= len(a.Forest.Nodes) || a.Forest.Nodes[n].Kind != 1 || a.States[n].Phase != 3 {
		return api.Class{}, false
	}
	c, has := watch.Class(a.States[n], a.Desk, a.Classes)
	return c, has && c.Form
}

// hears tells whether n is a form's element whose class hears of this.
func (a asked) hears(n, kind int) bool {
	c, ok := a.formClass(n)
	return ok && watch.Hears(c, kind)
}

func (a asked) toldByWords() ([]api.State, []api.Due) {
	states := slices.Clone(a.States)
	var l []api.Due
	for n := 0; a.right && n < len(states); n++ {
		if _, ok := a.formClass(n); !ok {
			continue
		}
		if x := owner.Of(a.Forest, n); x != a.States[n].Owner {
			states[n].Owner = x
			if a.hears(n, 5) {
				l = append(l, api.Due{Node: n, Todo: api.Todo{Kind: 5, From: a.States[n].Owner, To: x}})
			}
		}
		if barred := able.Barred(a.Forest, n); barred != a.States[n].Barred {
			states[n].Barred = barred
			if a.hears(n, 6) {
				l = append(l, api.Due{Node: n, Todo: api.Todo{Kind: 6, On: barred}})
			}
		}
	}
	return states, l
}

func (a asked) resetByWords(x int) []api.Due {
	var l []api.Due
	if !a.right || x < 0 || x >= len(a.Forest.Nodes) || a.Forest.Nodes[x].Name != "form" {
		return nil
	}
	for _, n := range owner.Members(a.Forest, x) {
		if a.hears(n, 7) {
			l = append(l, api.Due{Node: n, Todo: api.Todo{Kind: 7}})
		}
	}
	return l
}

func (a asked) restoreByWords(n int, s string) []api.Due {
	if !a.right || !a.hears(n, 8) {
		return nil
	}
	return []api.Due{{Node: n, Todo: api.Todo{Kind: 8, New: s}}}
}
