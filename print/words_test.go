package print_test

import (
	"regexp"
	"slices"
	"strings"
	"testing"

	"instar/api"
	"instar/forest"
	"instar/name"
	"instar/print"
	"instar/sample"
)

// The chapter's words once more, without haste and by other means, to hold the program against.

func quotedByWords(s string) string {
	return `"` + strings.NewReplacer(`"`, `\"`, `\`, `\\`).Replace(s) + `"`
}

// textByWords is for who knows that f is right, and has the node.
func textByWords(f api.Forest, n int) string {
	node, kids := f.Nodes[n], ""
	for _, kid := range node.Kids {
		kids += textByWords(f, kid)
	}
	switch node.Kind {
	case api.Text:
		return quotedByWords(node.Data)
	case api.Elem:
		begin := node.Name
		if node.Is != "" {
			begin += "!" + node.Is
		}
		for _, a := range node.Attrs {
			begin += " " + a.Name + "=" + quotedByWords(a.Value)
		}
		if node.Under != api.None {
			kids = textByWords(f, node.Under) + kids
		}
		return "<" + begin + ">" + kids + "</" + node.Name + ">"
	}
	signs := map[int]string{api.Frag: "[]", api.Shade: "{}", api.Doc: "()"}[node.Kind]
	return signs[:1] + kids + signs[1:]
}

var (
	quotedForm = regexp.MustCompile(`(?s)^"((?:[^"\\]|\\["\\])*)"`)
	attrForm   = regexp.MustCompile(`(?s)^ ([a-z_][a-z0-9_.-]*)="((?:[^"\\]|\\["\\])*)"`)
	beginForm  = regexp.MustCompile(`(?s)^<([a-z_][a-z0-9_.-]*)(!?)([a-z0-9_.-]*)((?: [a-z_][a-z0-9_.-]*="(?:[^"\\]|\\["\\])*")*)>`)
)

// valueOf is what stood between these signs.
func valueOf(s string) string {
	return strings.NewReplacer(`\"`, `"`, `\\`, `\`).Replace(s)
}

// elemByWords is the Elem that begins with these words, and whether there is one.
func elemByWords(words []string) (api.Node, bool) {
	n := api.Node{Kind: api.Elem, Name: words[1], Is: words[3]}
	if len(n.Name) > 40 || (words[2] == "!") != (n.Is != "") || n.Is != "" && !name.Custom(n.Is) {
		return n, false
	}
	for rest := words[4]; rest != ""; {
		a := attrForm.FindStringSubmatch(rest)
		rest = rest[len(a[0]):]
		n.Attrs = append(n.Attrs, api.Attr{Name: a[1], Value: valueOf(a[2])})
		had := slices.ContainsFunc(n.Attrs[:len(n.Attrs)-1], func(b api.Attr) bool { return b.Name == a[1] })
		if had || len(a[1]) > 40 || len(valueOf(a[2])) > 200 {
			return n, false
		}
	}
	return n, len(n.Attrs) <= 40
}

// open is a node that was begun, and what ends it.
type open struct {
	n   int
	end string
}

// scan is what was read up to somewhere: the nodes, those that are open, the last one at the end, and
// whether the last thing read was the begin of an Elem.
type scan struct {
	f     api.Forest
	doc   int
	opens []open
	begun bool
}

// come adds a node under the one that is open; one that has an end is open then.
func (c *scan) come(n api.Node, end string) {
	at := len(c.f.Nodes)
	n.Parent, n.Host, n.Under, n.Doc = api.None, api.None, api.None, c.doc
	if n.Kind == api.Shade {
		n.Host = c.opens[len(c.opens)-1].n
		c.f.Nodes[n.Host].Under = at
	}
	c.f.Nodes = append(c.f.Nodes, n)
	if n.Kind != api.Shade && len(c.opens) > 0 {
		sample.Hang(c.f, c.opens[len(c.opens)-1].n, at)
	}
	if end != "" {
		c.opens = append(c.opens, open{n: at, end: end})
	}
	c.begun = n.Kind == api.Elem
}

// next reads one thing from the front of s, and answers how long it is; 0: there is none.
func (c *scan) next(s string) int {
	if many := len(c.opens); many > 0 && strings.HasPrefix(s, c.opens[many-1].end) {
		long := len(c.opens[many-1].end)
		c.opens, c.begun = c.opens[:many-1], false
		return long
	}
	if words := beginForm.FindStringSubmatch(s); words != nil {
		n, ok := elemByWords(words)
		if !ok {
			return 0
		}
		c.come(n, "</"+n.Name+">")
		return len(words[0])
	}
	if words := quotedForm.FindStringSubmatch(s); words != nil && len(valueOf(words[1])) <= 200 {
		c.come(api.Node{Kind: api.Text, Data: valueOf(words[1])}, "")
		return len(words[0])
	}
	switch {
	case s[0] == '[' && len(c.opens) == 0:
		c.come(api.Node{Kind: api.Frag}, "]")
		return 1
	case s[0] == '{' && c.begun:
		c.come(api.Node{Kind: api.Shade}, "}")
		return 1
	}
	return 0
}

// answer is what Read and Fresh answer.
type answer struct {
	f   api.Forest
	n   int
	err api.Errno
}

// readByWords is for who knows that f is right, and doc a Doc of it.
func readByWords(f api.Forest, doc int, s string) answer {
	none := func(err api.Errno) answer { return answer{f, api.None, err} }
	if len(s) > 1<<14 {
		return none(api.ErrLong)
	}
	c := scan{f: sample.Copy(f), doc: doc}
	for rest := s; rest != "" || s == ""; {
		if rest == "" || len(c.f.Nodes) > len(f.Nodes) && len(c.opens) == 0 {
			return none(api.ErrForm)
		}
		long := c.next(rest)
		if long == 0 {
			return none(api.ErrForm)
		}
		rest = rest[long:]
	}
	switch {
	case len(c.opens) > 0 || len(c.f.Nodes) > 400:
		return none(api.ErrForm)
	case len(c.f.Nodes) > f.Most:
		return none(api.ErrFull)
	}
	return answer{c.f, len(f.Nodes), api.OK}
}

// checkRead checks what Read answers, and that what is handed in stays and shares nothing with the answer.
func checkRead(t *testing.T, what string, f api.Forest, doc int, s string, want answer) {
	t.Helper()
	var n int
	var err api.Errno
	g, fault := sample.Ask(f, func(f api.Forest) api.Forest {
		var g api.Forest
		g, n, err = print.Read(f, doc, s)
		return g
	})
	if n != want.n || err != want.err {
		t.Errorf("%s: %d, %d, not %d, %d", what, n, err, want.n, want.err)
	}
	if !sample.Same(g, want.f) {
		t.Errorf("%s: came to\n%v, not\n%v", what, g, want.f)
	}
	if fault != "" {
		t.Errorf("%s: %s", what, fault)
	}
	if err == api.OK && !forest.Right(g) {
		t.Errorf("%s: came to what isn't right", what)
	}
}

// parts are what texts are made of, and what they are not made of.
var parts = []string{"<p>", "</p>", `<x-a a="1">`, "</x-a>", `"`, `\`, "x", `""`, "[", "]", "{", "}", "<b", `!x-a`, ` c=`, ">", "</b>", "("}

// P8.2: all texts of up to four parts, in the forest of one Doc.
func TestReadWords(t *testing.T) {
	f, read := sample.Forest(4), 0
	var look func(s string, more int)
	look = func(s string, more int) {
		want := readByWords(f, 0, s)
		if g, n, err := print.Read(f, 0, s); n != want.n || err != want.err || !sample.Same(g, want.f) {
			t.Errorf("%q: %v, %d, %d, not %v", s, g, n, err, want)
		}
		if want.err == api.OK {
			read++
		}
		for _, part := range parts {
			if more > 0 {
				look(s+part, more-1)
			}
		}
	}
	look("", 4)
	if read < 100 {
		t.Errorf("only %d texts were texts of nodes", read)
	}
}

// texts are texts of nodes, with all that may stand in one.
func texts() []string {
	return []string{
		`""`, `"\\"`, `"\""`, "\"\x00\xff\n\t é\"", `[]`, `["a""b"""]`, `<p></p>`, `<_.-9></_.-9>`, `[<p></p>"x"<p></p>]`,
		`<x-a!x-b a="1" b-c="">{"s"<b></b>}"t"<i>{}</i></x-a>`,
		`<p a="\"\\>" b="</p>"><p>{<p>{<p></p>}</p>"</p>"}<p></p></p></p>`,
		`[<button!font-faces disabled="">"[]{}()<p>"</button>]`,
	}
}

// P8.2: texts with a byte less, more, or another one.
func TestReadEdited(t *testing.T) {
	f := sample.Grove()
	for _, s := range texts() {
		checkRead(t, s, f, 20, s, readByWords(f, 20, s))
		for at := range len(s) + 1 {
			edited := []string{s[:at]}
			for _, c := range "\"\\<>/!= ()[]{}aA-9\x00é" {
				edited = append(edited, s[:at]+string(c)+s[at:])
				if at < len(s) {
					edited = append(edited, s[:at]+string(c)+s[at+1:])
				}
			}
			if at < len(s) {
				edited = append(edited, s[:at]+s[at+1:], s[:at]+s[at:at+1]+s[at:], s[at:])
			}
			for _, s := range edited {
				want := readByWords(f, 20, s)
				if g, n, err := print.Read(f, 20, s); n != want.n || err != want.err || !sample.Same(g, want.f) {
					t.Errorf("%q: %v, %d, %d, not %v", s, g, n, err, want)
				}
			}
		}
	}
}
