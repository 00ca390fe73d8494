package forest

import (
	"instar/api"
	"instar/attr"
	"instar/name"
	"instar/walk"
)

// fits tells whether the node n, as far as one sees from itself and those that it names, may be.
func fits(nodes []api.Node, n int) bool {
	return fieldsFit(nodes[n]) && docFits(nodes, n) && kidsFit(nodes, n) && shadowFits(nodes, n)
}

// is tells whether n is the number of a node of this kind.
func is(nodes []api.Node, n, kind int) bool {
	return n >= 0 && n < len(nodes) && nodes[n].Kind == kind
}

// fieldsFit tells whether a node's kind, texts and attributes may be.
func fieldsFit(n api.Node) bool {
	switch n.Kind {
	case api.Elem:
		return isElemName(n.Name) && (n.Is == "" || name.Custom(n.Is)) && n.Data == "" && attr.Right(n.Attrs)
	case api.Doc, api.Frag, api.Shade:
		if n.Data != "" {
			return false
		}
		fallthrough
	case api.Text:
		return n.Name == "" && n.Is == "" && len(n.Data) <= api.MaxValue && len(n.Attrs) == 0
	}
	return false
}

func isElemName(s string) bool {
	small, err := name.Fit(s)
	return err == api.OK && small == s
}

func docFits(nodes []api.Node, n int) bool {
	doc := nodes[n].Doc
	return is(nodes, doc, api.Doc) && (nodes[n].Kind != api.Doc || doc == n)
}

// kidsFit tells whether n may have the children that it names; none of them may come twice, but of that namedOnce tells.
func kidsFit(nodes []api.Node, n int) bool {
	elems, texts := 0, 0
	for _, kid := range nodes[n].Kids {
		switch {
		case is(nodes, kid, api.Elem):
			elems++
		case is(nodes, kid, api.Text):
			texts++
		default:
			return false
		}
		if nodes[kid].Parent != n || nodes[kid].Doc != nodes[n].Doc {
			return false
		}
	}
	switch nodes[n].Kind {
	case api.Doc:
		return elems <= 1 && texts == 0
	case api.Text:
		return elems+texts == 0
	}
	return true
}

// shadowFits tells whether a Shade and its element name each other, and all others name none.
func shadowFits(nodes []api.Node, n int) bool {
	host, under := nodes[n].Host, nodes[n].Under
	switch nodes[n].Kind {
	case api.Shade:
		return is(nodes, host, api.Elem) && nodes[host].Under == n && nodes[host].Doc == nodes[n].Doc && under == api.None
	case api.Elem:
		return host == api.None && (under == api.None || is(nodes, under, api.Shade) && nodes[under].Host == n)
	}
	return host == api.None && under == api.None
}

// namedOnce tells whether whoever has a parent is once among the children. All nodes fit: so who is
// among them is an Elem or a Text, and has this parent.
func namedOnce(nodes []api.Node) bool {
	times := make([]int, len(nodes))
	for _, n := range nodes {
		for _, kid := range n.Kids {
			times[kid]++
		}
	}
	for n, count := range times {
		if (count == 1) != (nodes[n].Parent != api.None) {
			return false
		}
	}
	return true
}

// waysEnd tells whether each way up comes to an end. Of whom it is known once that it ends isn't asked
// again, else deep trees would be gone through over and over.
func waysEnd(nodes []api.Node) bool {
	ends := make([]bool, len(nodes))
	for n := range nodes {
		steps := 0
		for at := n; at != api.None && !ends[at]; at = walk.Up(nodes[at]) {
			if steps++; steps > len(nodes) {
				return false
			}
		}
		for at := n; at != api.None && !ends[at]; at = walk.Up(nodes[at]) {
			ends[at] = true
		}
	}
	return true
}
