package able_test

import (
	"instar/api"
	"instar/forest"
)

// What the chapter says, in its words one by one, for the tests to hold the answers against. Who is asked with
// a small letter knows that the forest is right, and has the node.

func isElem(f api.Forest, n int, name string) bool {
	return f.Nodes[n].Kind == api.Elem && f.Nodes[n].Name == name
}

func isDisabled(f api.Forest, n int) bool {
	for _, a := range f.Nodes[n].Attrs {
		if a.Name == "disabled" {
			return true
		}
	}
	return false
}

func legendOf(f api.Forest, n int) int {
	for _, kid := range f.Nodes[n].Kids {
		if isElem(f, kid, "legend") {
			return kid
		}
	}
	return -1
}

func under(f api.Forest, n int) []int {
	var l []int
	for up := f.Nodes[n].Parent; up != -1; up = f.Nodes[up].Parent {
		l = append(l, up)
	}
	return l
}

func isBarred(f api.Forest, n int) bool {
	if f.Nodes[n].Kind != api.Elem {
		return false
	}
	if isDisabled(f, n) {
		return true
	}
	for _, up := range under(f, n) {
		if !isElem(f, up, "fieldset") || !isDisabled(f, up) {
			continue
		}
		if legend := legendOf(f, up); legend == -1 || !forest.Holds(f, legend, n) {
			return true
		}
	}
	return false
}

func has(f api.Forest, n int) bool {
	return n >= 0 && n < len(f.Nodes) && forest.Right(f)
}

func legendByWords(f api.Forest, n int) int {
	if !has(f, n) {
		return -1
	}
	return legendOf(f, n)
}

func barredByWords(f api.Forest, n int) bool {
	return has(f, n) && isBarred(f, n)
}

func allByWords(f api.Forest) []int {
	if !forest.Right(f) {
		return nil
	}
	var l []int
	for n := range f.Nodes {
		if isBarred(f, n) {
			l = append(l, n)
		}
	}
	return l
}
