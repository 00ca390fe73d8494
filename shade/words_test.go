package shade_test

import (
	"slices"

	"instar/api"
)

// The chapter's words once more, each by itself and without haste, to hold the program against; for who
// knows that a forest is right.

func upByWords(f api.Forest, n int) int {
	if f.Nodes[n].Parent != api.None {
		return f.Nodes[n].Parent
	}
	return f.Nodes[n].Host
}

func topByWords(f api.Forest, n int) int {
	if upByWords(f, n) == api.None {
		return n
	}
	return topByWords(f, upByWords(f, n))
}

func overByWords(f api.Forest, a, b int) bool {
	if a == b {
		return true
	}
	return upByWords(f, b) != api.None && overByWords(f, a, upByWords(f, b))
}

func fullByWords(f api.Forest, n int) []int {
	order := []int{n}
	if f.Nodes[n].Under != api.None {
		order = append(order, fullByWords(f, f.Nodes[n].Under)...)
	}
	for _, kid := range f.Nodes[n].Kids {
		order = append(order, fullByWords(f, kid)...)
	}
	return order
}

func elemsByWords(f api.Forest, n int) []int {
	return slices.DeleteFunc(fullByWords(f, n), func(at int) bool { return f.Nodes[at].Kind != api.Elem })
}
