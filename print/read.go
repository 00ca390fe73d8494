package print

import (
	"strings"

	"instar/api"
	"instar/change"
	"instar/forest"
	"instar/quote"
)

// read answers f with what s tells.
func read(f api.Forest, doc int, s string) (api.Forest, api.Errno) {
	switch {
	case !knows(f, doc) || f.Nodes[doc].Kind != api.Doc:
		return api.Forest{}, api.ErrArg
	case len(s) > api.MaxText:
		return api.Forest{}, api.ErrLong
	}
	r := reader{Work: change.Begin(f), rest: s, doc: doc}
	switch {
	case !r.node() || r.rest != "" || !mightBe(r.Forest):
		return api.Forest{}, api.ErrForm
	case len(r.Forest.Nodes) > f.Most:
		return api.Forest{}, api.ErrFull
	}
	return r.Forest, api.OK
}

// mightBe tells whether f would be right, were there room.
func mightBe(f api.Forest) bool {
	f.Most = api.MaxNodes
	return forest.Right(f)
}

// reader adds to a forest what the rest of a text tells. It looks at the signs between names, values and
// children alone: whether those may be so, and who may stand under whom, is asked of the forest then.
type reader struct {
	*change.Work
	rest string
	doc  int
}

// node reads a Text, Elem or Frag, and tells whether there is one. Its number is the next one.
func (r *reader) node() bool {
	switch {
	case r.skip("<"):
		return r.elem()
	case r.skip("["):
		return r.kids(r.add(api.Node{Kind: api.Frag}), "]")
	}
	data, ok := r.quoted()
	r.add(api.Node{Kind: api.Text, Data: data})
	return ok
}

// elem reads an Elem, behind its first sign.
func (r *reader) elem() bool {
	n := api.Node{Kind: api.Elem, Name: r.word()}
	if r.skip("!") {
		if n.Is = r.word(); n.Is == "" {
			return false
		}
	}
	for r.skip(" ") {
		a, ok := r.attr()
		if !ok {
			return false
		}
		n.Attrs = append(n.Attrs, a)
	}
	if !r.skip(">") {
		return false
	}
	at := r.add(n)
	return r.shadow(at) && r.kids(at, "</"+n.Name+">")
}

// attr reads an attribute.
func (r *reader) attr() (api.Attr, bool) {
	n := r.word()
	if !r.skip("=") {
		return api.Attr{}, false
	}
	value, ok := r.quoted()
	return api.Attr{Name: n, Value: value}, ok
}

// shadow reads what hangs in an element's shadow, if anything does, and tells whether it may go on.
func (r *reader) shadow(host int) bool {
	if !r.skip("{") {
		return true
	}
	at := r.add(api.Node{Kind: api.Shade})
	r.Forest.Nodes[host].Under, r.Forest.Nodes[at].Host = at, host
	return r.kids(at, "}")
}

// kids reads p's children, and what ends them.
func (r *reader) kids(p int, end string) bool {
	for !r.skip(end) {
		kid := len(r.Forest.Nodes)
		if !r.node() {
			return false
		}
		r.Stand(kid, p, api.None)
	}
	return true
}

// word reads as much as might be a name: it has none of the signs that stand behind one. Where none of them
// comes, there is no word: the text ends too early then.
func (r *reader) word() string {
	end := max(strings.IndexAny(r.rest, "! =>"), 0)
	word := r.rest[:end]
	r.rest = r.rest[end:]
	return word
}

// quoted reads a quoted text, and answers what was quoted.
func (r *reader) quoted() (string, bool) {
	s, rest, ok := quote.Cut(r.rest)
	r.rest = rest
	return s, ok
}

// skip passes over what stands next, if it is this, and tells whether it was.
func (r *reader) skip(s string) bool {
	rest, ok := strings.CutPrefix(r.rest, s)
	r.rest = rest
	return ok
}

// add adds a node of the document, and answers its number.
func (r *reader) add(n api.Node) int {
	n.Doc = r.doc
	return r.Add(n)
}
