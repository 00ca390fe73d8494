// Package sample is for the tests of the layers: forests, desks, lines, classes, states and worlds to ask of, right ones
// and wrong ones, and means to see whether somebody changed or kept them. No layer's program leans on it.
package sample

import (
	"slices"

	"instar/api"
	"instar/forest"
)

// Elem answers an element to be planted.
func Elem(name string) api.Node { return api.Node{Kind: api.Elem, Name: name} }

// ElemIs answers an element to be planted, of that Is.
func ElemIs(name, is string) api.Node { return api.Node{Kind: api.Elem, Name: name, Is: is} }

// Text answers a Text to be planted.
func Text(data string) api.Node { return api.Node{Kind: api.Text, Data: data} }

// Of answers n as a node of the document doc.
func Of(doc int, n api.Node) api.Node {
	n.Doc = doc
	return n
}

// Forest answers a Doc and these nodes, each by itself. It panics where there is no such forest: the test
// that asks for it is wrong then.
func Forest(most int, nodes ...api.Node) api.Forest {
	f, err := forest.New(most)
	if err != api.OK {
		panic("sample: no such forest")
	}
	return Plant(f, nodes...)
}

// Plant answers f with these nodes more, each by itself. It panics as Forest does.
func Plant(f api.Forest, nodes ...api.Node) api.Forest {
	for _, n := range nodes {
		g, _, err := forest.Make(f, n)
		if err != api.OK {
			panic("sample: no such node")
		}
		f = g
	}
	return f
}

// Hang puts the kids under p, behind those that are there.
func Hang(f api.Forest, p int, kids ...int) {
	f.Nodes[p].Kids = append(f.Nodes[p].Kids, kids...)
	for _, kid := range kids {
		f.Nodes[kid].Parent = p
	}
}

// Cut takes n from its parent.
func Cut(f api.Forest, n int) {
	p := f.Nodes[n].Parent
	f.Nodes[p].Kids = slices.DeleteFunc(f.Nodes[p].Kids, func(kid int) bool { return kid == n })
	f.Nodes[n].Parent = api.None
}

// Cast lays a Shade more in n's shadow, whatever Most is, and answers its number.
func Cast(f *api.Forest, n int) int {
	at := len(f.Nodes)
	f.Nodes[n].Under = at
	f.Nodes = append(f.Nodes, api.Node{Kind: api.Shade, Parent: api.None, Host: n, Under: api.None, Doc: f.Nodes[n].Doc})
	return at
}

// Full answers f with no room left.
func Full(f api.Forest) api.Forest {
	f.Most = len(f.Nodes)
	return f
}
