package print_test

import (
	"strings"
	"testing"

	"instar/api"
	"instar/print"
	"instar/sample"
)

// P8.1: what is quoted, each byte by itself, and between others.
func TestQuote(t *testing.T) {
	for s, want := range map[string]string{
		"":             `""`,
		"a":            `"a"`,
		`"`:            `"\""`,
		`\`:            `"\\"`,
		`\"`:           `"\\\""`,
		`a"b\c`:        `"a\"b\\c"`,
		`""\\`:         `"\"\"\\\\"`,
		"\n\t\x00\xff": "\"\n\t\x00\xff\"",
		"é<>[]'/!=":    "\"é<>[]'/!=\"",
		"\\n":          `"\\n"`,
	} {
		if got := print.Quote(s); got != want {
			t.Errorf("%q: %q, not %q", s, got, want)
		}
	}
	all := ""
	for c := range 256 {
		s := string([]byte{byte(c)})
		want := `"` + s + `"`
		if c == '"' || c == '\\' {
			want = `"\` + s + `"`
		}
		if got := print.Quote(s); got != want {
			t.Errorf("%q: %q, not %q", s, got, want)
		}
		all += s + s
	}
	for _, s := range []string{all, strings.Repeat(all, 99), strings.Repeat("\\", 1<<20)} {
		if print.Quote(s) != quotedByWords(s) {
			t.Errorf("a text of %d bytes isn't quoted", len(s))
		}
	}
}

// P8.1: each node of the grove as text.
func TestPut(t *testing.T) {
	a := `<x-a!x-b a="1" b-c=""></x-a>`
	c, u := `<x-c>{}"t"`+a+`</x-c>`, `<u>{"n"<span></span>}</u>`
	quotes := "\"\\\"\x00\xff\""
	p := `<p>{` + u + quotes + `}` + c + `""<i></i></p>`
	div := `<div>{<x-d></x-d>}</div>`
	f := sample.Grove()
	for n, want := range []string{
		`(` + p + `)`, a, c, p, `"t"`, `<i></i>`, `""`, u, `<span></span>`, `"n"`, quotes,
		`[<li></li>"x"` + div + `]`, `{` + u + quotes + `}`, `{"n"<span></span>}`, `{}`, `<li></li>`, `"x"`, div,
		`{<x-d></x-d>}`, `<x-d></x-d>`, `()`, `<div>"y"</div>`, `"y"`, `<p>{<b></b>}</p>`, `{<b></b>}`, `<b></b>`, `"z"`,
	} {
		if !sample.Untouched(f, func(f api.Forest) {
			if got, err := print.Put(f, n); got != want || err != api.OK {
				t.Errorf("%d: %q, %d, not %q", n, got, err, want)
			}
		}) {
			t.Errorf("%d: what was handed in has changed", n)
		}
	}
}

// The chapter's example.
func TestExample(t *testing.T) {
	f := sample.Forest(9, api.Node{Kind: api.Elem, Name: "p", Attrs: []api.Attr{{Name: "a", Value: "1"}}}, sample.Text("hi"))
	sample.Hang(f, 1, 2)
	if s, err := print.Put(f, 1); s != `<p a="1">"hi"</p>` || err != api.OK {
		t.Errorf("%q, %d", s, err)
	}
}

// P8.1: attributes stand in their order, and their values, and a Text's Data, are quoted.
func TestPutAttrs(t *testing.T) {
	attrs := []api.Attr{{Name: "z", Value: `"`}, {Name: "a", Value: `\`}, {Name: "_", Value: " "}, {Name: "m.m", Value: "\n>"}}
	f := sample.Forest(9, api.Node{Kind: api.Elem, Name: "font-face", Attrs: attrs}, sample.Text(`\"</p>`))
	sample.Hang(f, 1, 2)
	want := "<font-face z=\"\\\"\" a=\"\\\\\" _=\" \" m.m=\"\n>\">" + `"\\\"</p>"` + "</font-face>"
	if s, err := print.Put(f, 1); s != want || err != api.OK {
		t.Errorf("%q, %d, not %q", s, err, want)
	}
}

// heavy has Elems in one another, so many nodes in all, each with as many attributes as may be, of values
// that are longest as text.
func heavy(count int) api.Forest {
	f := sample.Chain(count, false)
	for n := 1; n < count; n++ {
		for len(f.Nodes[n].Attrs) < api.MaxAttrs {
			number := strings.Repeat("a", len(f.Nodes[n].Attrs)+1)
			f.Nodes[n].Attrs = append(f.Nodes[n].Attrs, api.Attr{Name: number, Value: strings.Repeat(`"`, api.MaxValue)})
		}
	}
	return f
}

// forests answers forests that are right, of all sizes.
func forests() map[string]api.Forest {
	all := sample.Right()
	for _, more := range []map[string]api.Forest{sample.Meadows(), sample.Great()} {
		for what, f := range more {
			all[what] = f
		}
	}
	return all
}

// P8.1: some nodes of all forests, the greatest ones among them.
func TestPutWords(t *testing.T) {
	for what, f := range forests() {
		for _, n := range sample.Some(f) {
			if s, err := print.Put(f, n); s != textByWords(f, n) || err != api.OK {
				t.Errorf("%s, %d: %d, %q", what, n, err, s)
			}
		}
	}
	f := heavy(api.MaxNodes)
	if s, err := print.Put(f, 0); len(s) < 6000000 || s != textByWords(f, 0) || err != api.OK {
		t.Errorf("the longest text: %d, %d bytes", err, len(s))
	}
}

// P8.1: there is no text where the forest isn't right, or there is no such node.
func TestPutNobody(t *testing.T) {
	for what, f := range sample.Wrong() {
		for n := -1; n <= len(f.Nodes); n++ {
			if s, err := print.Put(f, n); s != "" || err != api.ErrArg {
				t.Errorf("%s, %d: %q, %d", what, n, s, err)
			}
		}
	}
	for what, f := range sample.Right() {
		for _, n := range sample.WrongNumbers(f) {
			if s, err := print.Put(f, n); s != "" || err != api.ErrArg {
				t.Errorf("%s, %d: %q, %d", what, n, s, err)
			}
		}
	}
}
