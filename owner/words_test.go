package owner_test

import (
	"slices"

	"instar/api"
	"instar/forest"
)

// What the chapter says, in its words one by one, for the tests to hold the answers against. Who is asked with
// a small letter knows that the forest is right, and has the node.

func isForm(f api.Forest, n int) bool {
	return f.Nodes[n].Kind == api.Elem && f.Nodes[n].Name == "form"
}

func value(f api.Forest, n int, name string) (string, bool) {
	for _, a := range f.Nodes[n].Attrs {
		if a.Name == name {
			return a.Value, true
		}
	}
	return "", false
}

func root(f api.Forest, n int) int {
	if f.Nodes[n].Parent == -1 {
		return n
	}
	return root(f, f.Nodes[n].Parent)
}

func connected(f api.Forest, n int) bool {
	top := root(f, n)
	if f.Nodes[top].Kind == api.Shade {
		return connected(f, f.Nodes[top].Host)
	}
	return f.Nodes[top].Kind == api.Doc
}

func tree(f api.Forest, n int) []int {
	order := []int{n}
	for _, kid := range f.Nodes[n].Kids {
		order = append(order, tree(f, kid)...)
	}
	return order
}

func chosen(f api.Forest, n int, id string) int {
	if id == "" {
		return -1
	}
	for _, at := range tree(f, root(f, n)) {
		if v, has := value(f, at, "id"); has && v == id {
			if isForm(f, at) {
				return at
			}
			return -1
		}
	}
	return -1
}

func above(f api.Forest, n int) int {
	up := f.Nodes[n].Parent
	if up == -1 || isForm(f, up) {
		return up
	}
	return above(f, up)
}

func ownerOf(f api.Forest, n int) int {
	if f.Nodes[n].Kind != api.Elem {
		return -1
	}
	if id, has := value(f, n, "form"); has && connected(f, n) {
		return chosen(f, n, id)
	}
	return above(f, n)
}

func has(f api.Forest, n int) bool {
	return n >= 0 && n < len(f.Nodes) && forest.Right(f)
}

func ofByWords(f api.Forest, n int) int {
	if !has(f, n) {
		return -1
	}
	return ownerOf(f, n)
}

func allByWords(f api.Forest) []int {
	if !forest.Right(f) {
		return nil
	}
	var l []int
	for n := range f.Nodes {
		l = append(l, ownerOf(f, n))
	}
	return l
}

func membersByWords(f api.Forest, x int) []int {
	if !has(f, x) || !isForm(f, x) {
		return nil
	}
	return slices.DeleteFunc(tree(f, root(f, x)), func(n int) bool { return ownerOf(f, n) != x })
}
