// Package walk answers the ways through the nodes of a forest. It asks nothing of them: whoever calls it
// knows that the forest is right and has the node, and so needn't have that asked anew at each step.
package walk

import (
	"slices"

	"instar/api"
)

// Up answers who comes next on the way up.
func Up(n api.Node) int {
	if n.Parent != api.None {
		return n.Parent
	}
	return n.Host
}

// Top answers where the way up from n ends.
func Top(nodes []api.Node, n int) int {
	for Up(nodes[n]) != api.None {
		n = Up(nodes[n])
	}
	return n
}

// Root answers where the way from n to its parent, and so on, ends: it goes out of no shadow.
func Root(nodes []api.Node, n int) int {
	for nodes[n].Parent != api.None {
		n = nodes[n].Parent
	}
	return n
}

// Tree answers tree order from n.
func Tree(nodes []api.Node, n int) []int {
	return order(nodes, n, false)
}

// Full answers full order from n.
func Full(nodes []api.Node, n int) []int {
	return order(nodes, n, true)
}

// order answers who comes from n on, with shadows or without. What is still to be gone through lies on a
// pile, the next one on top: so an element's shadow is laid there behind its children.
func order(nodes []api.Node, n int, shadows bool) []int {
	var l []int
	for pile := []int{n}; len(pile) > 0; {
		top := len(pile) - 1
		at := pile[top]
		pile = pile[:top]
		l = append(l, at)
		for _, kid := range slices.Backward(nodes[at].Kids) {
			pile = append(pile, kid)
		}
		if under := nodes[at].Under; shadows && under != api.None {
			pile = append(pile, under)
		}
	}
	return l
}
