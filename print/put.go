package print

import (
	"strings"

	"instar/api"
)

// putter puts nodes of a right forest, one behind the other, into one text.
type putter struct {
	strings.Builder
	nodes []api.Node
}

func (p *putter) put(n int) {
	switch node := p.nodes[n]; node.Kind {
	case api.Text:
		p.quote(node.Data)
	case api.Elem:
		p.elem(node)
	case api.Frag:
		p.kids("[", node, "]")
	case api.Shade:
		p.kids("{", node, "}")
	case api.Doc:
		p.kids("(", node, ")")
	}
}

func (p *putter) elem(node api.Node) {
	p.WriteString("<" + node.Name)
	if node.Is != "" {
		p.WriteString("!" + node.Is)
	}
	for _, a := range node.Attrs {
		p.WriteString(" " + a.Name + "=")
		p.quote(a.Value)
	}
	p.WriteString(">")
	if node.Under != api.None {
		p.put(node.Under)
	}
	p.kids("", node, "</"+node.Name+">")
}

// kids puts a node's children, between what begins and what ends it.
func (p *putter) kids(begin string, node api.Node, end string) {
	p.WriteString(begin)
	for _, kid := range node.Kids {
		p.put(kid)
	}
	p.WriteString(end)
}

// quote goes by bytes: those that are no letter's have to stay as they are.
func (p *putter) quote(s string) {
	p.WriteByte('"')
	for i := range len(s) {
		if s[i] == '"' || s[i] == '\\' {
			p.WriteByte('\\')
		}
		p.WriteByte(s[i])
	}
	p.WriteByte('"')
}
