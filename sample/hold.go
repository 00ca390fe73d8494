package sample

import (
	"slices"
	"strconv"

	"instar/api"
)

// SameNode tells whether two nodes have the same fields.
func SameNode(a, b api.Node) bool {
	return slices.Equal(a.Attrs, b.Attrs) && slices.Equal(a.Kids, b.Kids) &&
		a.Kind == b.Kind && a.Name == b.Name && a.Is == b.Is && a.Data == b.Data &&
		a.Parent == b.Parent && a.Host == b.Host && a.Under == b.Under && a.Doc == b.Doc
}

// Same tells whether two forests are the same.
func Same(f, g api.Forest) bool {
	return f.Most == g.Most && slices.EqualFunc(f.Nodes, g.Nodes, SameNode)
}

// Copy answers f in memory of its own, without spare room.
func Copy(f api.Forest) api.Forest {
	g := api.Forest{Most: f.Most, Nodes: slices.Clip(slices.Clone(f.Nodes))}
	for i, n := range f.Nodes {
		g.Nodes[i].Attrs = slices.Clip(slices.Clone(n.Attrs))
		g.Nodes[i].Kids = slices.Clip(slices.Clone(n.Kids))
	}
	return g
}

// room is how much of it stands to spare behind each list of what Roomy answers.
const room = 3

// Roomy answers f with room to spare behind each of its lists, and what stands in those with the room.
func Roomy(f api.Forest) (api.Forest, api.Forest) {
	spare := api.Node{Kind: 77, Name: "spare", Doc: 77, Parent: 77, Host: 77, Under: 77}
	whole := Copy(f)
	for i, n := range whole.Nodes {
		whole.Nodes[i].Kids = append(slices.Clone(n.Kids), 77, 78, 79)
		whole.Nodes[i].Attrs = append(slices.Clone(n.Attrs), api.Attr{Name: "spare"}, api.Attr{Value: "spare"}, api.Attr{})
	}
	whole.Nodes = append(whole.Nodes, spare, spare, spare)
	g := api.Forest{Nodes: slices.Clone(whole.Nodes)[:len(f.Nodes)], Most: f.Most}
	for i, n := range f.Nodes {
		g.Nodes[i].Kids = slices.Clone(whole.Nodes[i].Kids)[:len(n.Kids)]
		g.Nodes[i].Attrs = slices.Clone(whole.Nodes[i].Attrs)[:len(n.Attrs)]
	}
	return g, whole
}

// Stays tells whether f, of Roomy's, has in it, and behind it, what whole says.
func Stays(f, whole api.Forest) bool {
	if cap(f.Nodes) < len(whole.Nodes) {
		return false
	}
	for i, n := range whole.Nodes {
		m, ok := f.Nodes[:cap(f.Nodes)][i], true
		if i < len(whole.Nodes)-room {
			m, ok = spread(m, n)
		}
		if !ok || !SameNode(m, n) {
			return false
		}
	}
	return f.Most == whole.Most
}

// spread answers m with the room that its lists have, and whether that is as much as n's lists tell.
func spread(m, n api.Node) (api.Node, bool) {
	if len(m.Kids)+room != len(n.Kids) || len(m.Attrs)+room != len(n.Attrs) || cap(m.Kids) < len(n.Kids) || cap(m.Attrs) < len(n.Attrs) {
		return m, false
	}
	m.Kids, m.Attrs = m.Kids[:len(n.Kids)], m.Attrs[:len(n.Attrs)]
	return m, true
}

// Untouched tells whether a call leaves the forest that it is given, and its spare room, as it is.
func Untouched(f api.Forest, call func(f api.Forest)) bool {
	given, whole := Roomy(f)
	call(given)
	return Stays(given, whole)
}

// Scribble changes all that hangs on f, spare room and all.
func Scribble(f api.Forest) {
	all := f.Nodes[:cap(f.Nodes)]
	for i, n := range all {
		for j := range n.Kids[:cap(n.Kids)] {
			n.Kids[:cap(n.Kids)][j] = 999
		}
		for j := range n.Attrs[:cap(n.Attrs)] {
			n.Attrs[:cap(n.Attrs)][j] = api.Attr{Name: "mine", Value: "mine"}
		}
		all[i] = api.Node{Kind: 999, Name: "mine"}
	}
}

// Apart tells whether no two lists that hang on f share memory, spare room and all. It changes all of them.
func Apart(f api.Forest) bool {
	var kids [][]int
	var attrs [][]api.Attr
	for _, n := range f.Nodes {
		kids, attrs = append(kids, n.Kids[:cap(n.Kids)]), append(attrs, n.Attrs[:cap(n.Attrs)])
	}
	number := func(i int) int { return i }
	label := func(i int) api.Attr { return api.Attr{Value: strconv.Itoa(i)} }
	return apart(kids, number) && apart(attrs, label)
}

// Ask answers, in memory of its own, what a call answers to f, and, if it isn't careful with memory, how so:
// it changes what it is given, spare room and all, or shares memory with that, or its lists do with each other.
func Ask(f api.Forest, call func(f api.Forest) api.Forest) (api.Forest, string) {
	given, whole := Roomy(f)
	g := call(given)
	answer := Copy(g)
	if !Apart(g) {
		return answer, "lists of the answer share memory"
	}
	Scribble(g)
	if !Stays(given, whole) {
		return answer, "what was handed in is changed, or shared"
	}
	return answer, ""
}

// Kept tells whether a call leaves the list that it is given, and its spare room, as it is.
func Kept[T comparable](l []T, call func(l []T)) bool {
	whole := append(slices.Clone(l), make([]T, room)...)
	given := slices.Clone(whole)
	call(given[:len(l)])
	return slices.Equal(given, whole)
}

// apart writes into each list what no other one gets, and looks whether it is still there.
func apart[T comparable](lists [][]T, own func(i int) T) bool {
	for i, l := range lists {
		for j := range l {
			l[j] = own(i)
		}
	}
	for i, l := range lists {
		if slices.ContainsFunc(l, func(x T) bool { return x != own(i) }) {
			return false
		}
	}
	return true
}
