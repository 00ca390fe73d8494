package valid_test

import (
	"slices"

	"instar/api"
	"instar/sample"
)

// The chapter's words once more, each by itself and without haste, to hold the program against; for who
// knows that a forest is right, and has the nodes.

// mayByWords goes through the chapter's list in its turn; with swap it is asked for the place of the child.
func mayByWords(f api.Forest, n, p, child int, swap bool) api.Errno {
	node, parent := f.Nodes[n], f.Nodes[p]
	if !slices.Contains([]int{api.Doc, api.Elem, api.Frag, api.Shade}, parent.Kind) {
		return api.ErrTree
	}
	if overByWords(f, n, p) {
		return api.ErrTree
	}
	if child == api.None && swap || child != api.None && !slices.Contains(parent.Kids, child) {
		return api.ErrNone
	}
	if node.Kind == api.Doc || node.Kind == api.Shade {
		return api.ErrTree
	}
	if parent.Kind == api.Doc && !docByWords(f, node, parent, child, swap) {
		return api.ErrTree
	}
	return api.OK
}

// docByWords is what the list says of a parent that is a Doc.
func docByWords(f api.Forest, node, doc api.Node, child int, swap bool) bool {
	taken := count(f, doc.Kids, api.Elem) > 0
	if swap && f.Nodes[child].Kind == api.Elem {
		taken = count(f, doc.Kids, api.Elem) > 1
	}
	switch node.Kind {
	case api.Text:
		return false
	case api.Frag:
		elems := count(f, node.Kids, api.Elem)
		return count(f, node.Kids, api.Text) == 0 && elems < 2 && !(elems == 1 && taken)
	}
	return !taken
}

func count(f api.Forest, l []int, kind int) int {
	found := 0
	for _, n := range l {
		if f.Nodes[n].Kind == kind {
			found++
		}
	}
	return found
}

func overByWords(f api.Forest, a, b int) bool {
	switch {
	case a == b:
		return true
	case f.Nodes[b].Parent != api.None:
		return overByWords(f, a, f.Nodes[b].Parent)
	case f.Nodes[b].Host != api.None:
		return overByWords(f, a, f.Nodes[b].Host)
	}
	return false
}

func partsByWords(f api.Forest, n int) []int {
	if f.Nodes[n].Kind == api.Frag {
		return f.Nodes[n].Kids
	}
	return []int{n}
}

// behindByWords is the child ahead of which stands what comes ahead of child, when n went from there.
func behindByWords(f api.Forest, n, p, child int) int {
	if child != n {
		return child
	}
	kids := append(slices.Clone(f.Nodes[p].Kids), api.None)
	return kids[slices.Index(kids, n)+1]
}

func beforeByWords(f api.Forest, n, p, child int) int {
	if mayByWords(f, n, p, child, false) != api.OK {
		return api.None
	}
	return behindByWords(f, n, p, child)
}

// put puts the parts under p, ahead of one of its children, or behind all, whether they may stand there or
// not: each goes from its parent, and all that it is over comes to p's document.
func put(f api.Forest, parts []int, p, ahead int) api.Forest {
	g := sample.Copy(f)
	for _, part := range parts {
		if g.Nodes[part].Parent != api.None {
			sample.Cut(g, part)
		}
		for n := range f.Nodes {
			if overByWords(f, part, n) {
				g.Nodes[n].Doc = f.Nodes[p].Doc
			}
		}
		kids := g.Nodes[p].Kids
		at := slices.Index(kids, ahead)
		if at < 0 {
			at = len(kids)
		}
		g.Nodes[p].Kids = slices.Insert(kids, at, part)
		g.Nodes[part].Parent = p
	}
	return g
}
