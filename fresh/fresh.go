// Package fresh answers copies that share no memory with what they are made of, for the layers whose
// answers are to be new memory.
package fresh

import (
	"slices"

	"instar/api"
)

// Forest answers f in memory of its own, so that whoever gets it may change it.
func Forest(f api.Forest) api.Forest {
	nodes := slices.Clone(f.Nodes)
	for i, n := range nodes {
		nodes[i].Attrs, nodes[i].Kids = slices.Clone(n.Attrs), slices.Clone(n.Kids)
	}
	return api.Forest{Nodes: nodes, Most: f.Most}
}
