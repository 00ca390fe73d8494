package sample

import (
	"slices"
	"strconv"

	"instar/api"
)

// chance answers numbers without an order to be seen, the same ones for each seed.
type chance uint64

// below answers a number from 0 to below n.
func (c *chance) below(n int) int {
	*c = *c*6364136223846793005 + 1442695040888963407
	return int(*c>>33) % n
}

// pick answers one of l.
func (c *chance) pick(l ...string) string {
	return l[c.below(len(l))]
}

// Tangle answers a forest of 20 nodes, of one or more documents, that chance has put together, the same
// one for each seed.
func Tangle(seed int) api.Forest {
	c := chance(seed)
	docs := []int{0}
	f := Forest(api.MaxNodes)
	for len(f.Nodes) < 20 {
		doc := docs[c.below(len(docs))]
		switch c.below(9) {
		case 0:
			f = Plant(f, Of(doc, api.Node{Kind: api.Frag}))
		case 1, 2:
			f = Plant(f, Of(doc, Text("t")))
		case 3:
			if n := c.below(len(f.Nodes)); f.Nodes[n].Kind == api.Elem && f.Nodes[n].Under == api.None {
				Cast(&f, n)
			}
		case 4:
			if c.below(3) == 0 {
				docs = append(docs, len(f.Nodes))
				f = Plant(f, api.Node{Kind: api.Doc})
			}
		default:
			f = Plant(f, Of(doc, Elem(c.pick("p", "x-a", "b", "div"))))
		}
	}
	for range 40 {
		tie(f, c.below(20), c.below(20), c.below(2) == 0)
	}
	return f
}

// Masked answers the tangle of that seed, its elements of a few names and Is's, as chance has it.
func Masked(seed int) api.Forest {
	c, f := chance(seed), Tangle(seed)
	for n := range f.Nodes {
		if e := &f.Nodes[n]; e.Kind == api.Elem {
			e.Name, e.Is = c.pick("x-a", "x-b", "x-c", "button", "p"), c.pick("", "x-a", "x-b", "x-c")
		}
	}
	return f
}

// Office answers a desk that chance has put together, the same one for each seed: each of x-a, x-b and x-c is
// defined, for itself, for buttons or for p, or waited for.
func Office(seed int) api.Desk {
	c, d := chance(seed), api.Desk{Busy: seed%2 == 0}
	names := []string{"x-a", "x-b", "x-c"}
	for class := 3; len(names) > 0; class-- {
		at := c.below(len(names))
		s := names[at]
		names = slices.Delete(names, at, at+1)
		if local := c.pick(s, "button", "p", ""); local != "" {
			d.Defs = append(d.Defs, api.Def{Name: s, Local: local, Class: class})
		} else {
			d.Waits, d.Next = append(d.Waits, api.Wait{Name: s, Ticket: d.Next}), d.Next+1
		}
	}
	return d
}

// Bureau answers a forest of 20 nodes that chance has put together, the same one for each seed: most of its elements
// are connected, and those of forms, with attributes that tell whose they are, and who is barred.
func Bureau(seed int) api.Forest {
	c, f := chance(seed), Forest(api.MaxNodes, Elem("p"))
	Hang(f, 0, 1)
	for len(f.Nodes) < 20 {
		at := c.below(len(f.Nodes)-1) + 1
		doc := f.Nodes[at].Doc
		switch c.below(16) {
		case 0:
			f = Plant(f, Of(doc, api.Node{Kind: c.below(2) * api.Frag}))
		case 1:
			if f.Nodes[at].Kind == api.Elem && f.Nodes[at].Under == api.None {
				Cast(&f, at)
			}
		case 2:
			f = Plant(f, Of(doc, Text("f")))
		default:
			f = Plant(f, Of(doc, c.clerk()))
		}
		if kid := len(f.Nodes) - 1; c.below(9) > 0 {
			tie(f, at, kid, c.below(2) == 0)
		}
	}
	return f
}

// clerk answers an element of forms to be planted.
func (c *chance) clerk() api.Node {
	e := Elem(c.pick("form", "form", "fieldset", "fieldset", "legend", "x-a"))
	for _, a := range []api.Attr{{Name: "title", Value: "f"}, {Name: "form", Value: c.pick("", "f", "g", "h")}, {Name: "disabled"}, {Name: "id", Value: c.pick("", "f", "g")}} {
		if c.below(3) == 0 {
			e.Attrs = append(e.Attrs, a)
		}
	}
	return e
}

// Meadows answers small forests with all that may stand somewhere, each of them right.
func Meadows() map[string]api.Forest {
	all := map[string]api.Forest{"glade": Glade(), "glade, full": Full(Glade()), "grove": Grove()}
	for seed := range 20 {
		all["tangle "+strconv.Itoa(seed)] = Tangle(seed)
	}
	return all
}

// tie puts kid under p, as its first child or its last one, where both may be so.
func tie(f api.Forest, p, kid int, first bool) {
	parent, child := f.Nodes[p], f.Nodes[kid]
	switch {
	case child.Kind != api.Elem && child.Kind != api.Text, child.Parent != api.None, child.Doc != parent.Doc:
		return
	case parent.Kind == api.Text, parent.Kind == api.Doc && (child.Kind == api.Text || len(parent.Kids) > 0), over(f, kid, p):
		return
	}
	Hang(f, p, kid)
	if kids := f.Nodes[p].Kids; first {
		copy(kids[1:], kids)
		kids[0] = kid
	}
}

// over tells whether a is b, or stands on the way up from it.
func over(f api.Forest, a, b int) bool {
	for b != a && b != api.None {
		if up := f.Nodes[b].Parent; up != api.None {
			b = up
		} else {
			b = f.Nodes[b].Host
		}
	}
	return b == a
}
