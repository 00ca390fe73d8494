package print_test

import (
	"slices"
	"strconv"
	"strings"
	"testing"

	"instar/api"
	"instar/forest"
	"instar/print"
	"instar/sample"
)

// P8.2: nodes are numbered as they begin in the text, stand behind those that were there, are of the document,
// and name one another.
func TestRead(t *testing.T) {
	f := sample.Grove()
	for _, doc := range []int{0, 20} {
		g := sample.Copy(f)
		elem := func(name string, parent, under int, kids ...int) api.Node {
			return api.Node{Kind: api.Elem, Name: name, Parent: parent, Kids: kids, Host: api.None, Under: under, Doc: doc}
		}
		text := func(data string, parent int) api.Node {
			return api.Node{Kind: api.Text, Data: data, Parent: parent, Host: api.None, Under: api.None, Doc: doc}
		}
		shadow := func(host int, kids ...int) api.Node {
			return api.Node{Kind: api.Shade, Parent: api.None, Kids: kids, Host: host, Under: api.None, Doc: doc}
		}
		first := elem("x-a", 27, 29, 32, 33)
		first.Is, first.Attrs = "x-b", []api.Attr{{Name: "b", Value: `"\`}, {Name: "a"}}
		g.Nodes = append(g.Nodes,
			api.Node{Kind: api.Frag, Parent: api.None, Kids: []int{28, 36}, Host: api.None, Under: api.None, Doc: doc},
			first, shadow(28, 30, 31), text("s", 29), elem("b", 29, api.None), text("t", 28),
			elem("i", 28, 34, 35), shadow(33), text("", 33), text("u", 27))
		s := `[<x-a!x-b b="\"\\" a="">{"s"<b></b>}"t"<i>{}""</i></x-a>"u"]`
		checkRead(t, "all kinds", f, doc, s, answer{g, 27, api.OK})
	}
}

// refused checks that s is no text of nodes, neither in a forest with room nor in one without.
func refused(t *testing.T, what, s string) {
	t.Helper()
	for _, f := range []api.Forest{sample.Forest(api.MaxNodes), sample.Grove(), sample.Full(sample.Grove())} {
		checkRead(t, what+": "+strconv.Quote(s), f, 0, s, answer{f, api.None, api.ErrForm})
	}
}

// P8.2: what is no text of a node.
func TestReadForm(t *testing.T) {
	for what, all := range map[string][]string{
		"nothing, or no begin": {"", " ", "x", "p", "\n", ">", "]", "}", ")", "=", "!", `\`, "</p>", "\x00"},
		"a quote":              {`"`, `"a`, `"\`, `"\"`, `"\a"`, `"\n"`, `"a"b`, `"""`, `'a'`, `"\ "`},
		"no end":               {"<", "<p", "<p>", "<p></", "<p></p", "<p><b></b>", "[", `[""`, "<p>{", "<p>{}", "<p>{</p>"},
		"another end":          {"<p></b>", "<p><b></p></b>", "<p></pp>", "<pp></p>", "<p></ p>", "<p></p >", "<p></P>", "<p>]", "[}", "[</p>", "<p>{]</p>", "<p/>", "<p></>"},
		"more behind":          {"<p></p><p></p>", "[]]", `""""`, "<p></p> ", "[][]", "<p></p>\n", "[]\x00", `""<p></p>`},
		"more ahead":           {" <p></p>", "\n[]", ` ""`, "!<p></p>"},
		"a name":               {"<></>", "<P></P>", "<9></9>", "<-></->", "<é></é>", "<p\"></p\">", "<p[></p[>", "<p/></p/>", "<p\n></p\n>", "< p></p>", "<p\x00></p\x00>"},
		"an Is":                {"<p!></p>", "<p!b></p>", "<p!X-a></p>", "<p!font-face></p>", "<p!x-a!x-b></p>", "<p !x-a></p>", "<p! x-a></p>", "<p!_-a></p>", `<p a=""!x-a></p>`, "<p!! a></p>", `<p! a=""></p>`},
		"an attribute":         {"<p a></p>", "<p a=></p>", "<p a=b></p>", `<p a="></p>`, "<p a='b'></p>", `<p A=""></p>`, `<p ="" ></p>`, `<p =""></p>`, `<p 9=""></p>`, `<p a=""b=""></p>`, `<p  a=""></p>`, `<p a="" ></p>`, `<p a =""></p>`, `<p a= ""></p>`, `<p a="" a=""></p>`, `<p a="1" b="" a="2"></p>`, `<p a="\x"></p>`, "<p ></p>", "<p\na=\"\"></p>", `<p></p a="">`},
		"who stands there":     {"()", "{}", "(<p></p>)", "<p>[]</p>", "<p>()</p>", "[[]]", "[{}]", "[()]", "<p>{[]}</p>", "<p>{()}</p>", "<p>{{}}</p>", `[""[]]`},
		"a shadow":             {`<p>""{}</p>`, "<p><b></b>{}</p>", "<p>{}{}</p>", "<p{}></p>", "{}<p></p>", "<p></p>{}", "<p>{}</p>{}"},
		"between children":     {"<p> </p>", "<p>x</p>", "<p>\n<b></b></p>", `["" ""]`, `["",""]`, "<p><b></b> </p>", "<p> {}</p>", "<p>{ }</p>"},
	} {
		for _, s := range all {
			refused(t, what, s)
		}
	}
}

// attrs is the text of so many attributes.
func attrs(count int) string {
	s := ""
	for i := range count {
		s += ` a` + strconv.Itoa(i) + `=""`
	}
	return s
}

// P8.2: what is just not too long is read, and what is longer by one is no text.
func TestReadLimits(t *testing.T) {
	f := sample.Grove()
	for what, of := range map[string]func(more int) string{
		"a name": func(more int) string {
			n := strings.Repeat("n", 40+more)
			return "<" + n + "></" + n + ">"
		},
		"an Is":                func(more int) string { return "<p!x-" + strings.Repeat("i", 38+more) + "></p>" },
		"an attribute's name":  func(more int) string { return "<p " + strings.Repeat("a", 40+more) + `=""></p>` },
		"an attribute's value": func(more int) string { return `<p a="` + strings.Repeat(`\"`, 200+more) + `"></p>` },
		"attributes":           func(more int) string { return "<p" + attrs(40+more) + "></p>" },
		"data":                 func(more int) string { return `"` + strings.Repeat(`\\`, 200+more) + `"` },
		"data in a Frag":       func(more int) string { return `["` + strings.Repeat("\xff", 200+more) + `"]` },
		"data in a shadow":     func(more int) string { return `<p>{"` + strings.Repeat("d", 200+more) + `"}</p>` },
	} {
		for _, more := range []int{-1, 0} {
			want := readByWords(f, 0, of(more))
			if want.err != api.OK {
				t.Errorf("%s: not the text that was meant", what)
			}
			checkRead(t, what, f, 0, of(more), want)
		}
		refused(t, what, of(1))
		refused(t, what, of(200))
	}
}

// full is the text of a Frag that has just so many bytes, at least 2000. What the longest Texts leave is
// shared by two.
func full(bytes int) string {
	text := func(long int) string { return `"` + strings.Repeat("t", long) + `"` }
	s := "["
	for len(s)+404 < bytes {
		s += text(200)
	}
	rest := bytes - len(s) - len(`""""]`)
	return s + text(rest/2) + text(rest-rest/2) + "]"
}

// P8.2: 2^14 bytes are read, and not one more; what is too long is told so ahead of all that may be said of
// the text, and of the room.
func TestReadLong(t *testing.T) {
	f := sample.Grove()
	f.Most = api.MaxNodes
	for _, bytes := range []int{2000, 1<<14 - 1, 1 << 14} {
		s, want := full(bytes), readByWords(f, 0, full(bytes))
		if len(s) != bytes || want.err != api.OK {
			t.Errorf("%d bytes: not the text that was meant", bytes)
		}
		checkRead(t, strconv.Itoa(bytes)+" bytes", f, 0, s, want)
	}
	for _, f := range []api.Forest{f, sample.Full(sample.Grove())} {
		for _, s := range []string{full(1<<14 + 1), full(1 << 15), strings.Repeat("x", 1<<14+1), strings.Repeat("<p>", 1<<14), strings.Repeat("\x00", 1<<22)} {
			checkRead(t, "too long", f, 0, s, answer{f, api.None, api.ErrLong})
		}
	}
	for _, s := range []string{"x", "\\", "\"", "[", "<", "<p>", "<p>{", `""`, "<p", " a=\"\""} {
		refused(t, "as long as may be", strings.Repeat(s, 1<<14/len(s)))
	}
}

// frag is the text of so many nodes, one of which is the Frag.
func frag(count int) string {
	return "[" + strings.Repeat(`""`, count-1) + "]"
}

// deep is the text of so many Elems, each in the one before.
func deep(count int) string {
	return strings.Repeat("<p>", count) + strings.Repeat("</p>", count)
}

// P8.2: there is room up to Most; what wouldn't have any in the greatest forest is no text, there and elsewhere.
func TestReadRoom(t *testing.T) {
	for what, of := range map[string]func(count int) string{"wide": frag, "deep": deep} {
		for _, c := range []struct {
			most, count int
			want        api.Errno
		}{
			{1, 1, api.ErrFull}, {2, 1, api.OK}, {2, 2, api.ErrFull}, {3, 2, api.OK}, {20, 19, api.OK}, {20, 20, api.ErrFull}, {20, 300, api.ErrFull},
			{400, 399, api.OK}, {399, 398, api.OK}, {399, 399, api.ErrFull}, {1, 399, api.ErrFull},
			{400, 400, api.ErrForm}, {399, 400, api.ErrForm}, {1, 400, api.ErrForm}, {400, 2000, api.ErrForm}, {20, 2000, api.ErrForm},
		} {
			f := sample.Forest(c.most)
			want := readByWords(f, 0, of(c.count))
			if want.err != c.want {
				t.Errorf("%s, %d of %d: the words say %d", what, c.count, c.most, want.err)
			}
			checkRead(t, what+", "+strconv.Itoa(c.count)+" of "+strconv.Itoa(c.most), f, 0, of(c.count), want)
		}
	}
	f := sample.Grove()
	for most := 27; most < 33; most++ {
		f.Most = most
		for count, s := range texts() {
			checkRead(t, strconv.Itoa(count)+", at most "+strconv.Itoa(most), f, 20, s, readByWords(f, 20, s))
		}
	}
	for what, f := range sample.Great() {
		checkRead(t, what, f, 399, `""`, answer{f, api.None, api.ErrForm})
	}
}

// P8.2: nothing is read where the forest isn't right, or the document is none, whatever the text is.
func TestReadNobody(t *testing.T) {
	some := []string{"", `""`, "<p></p>", "x", strings.Repeat("x", 1<<14+1)}
	for what, f := range sample.Wrong() {
		for n := -1; n <= len(f.Nodes); n++ {
			for _, s := range some {
				checkRead(t, what, f, n, s, answer{f, api.None, api.ErrArg})
			}
		}
	}
	for _, f := range []api.Forest{sample.Grove(), sample.Full(sample.Grove())} {
		numbers := sample.WrongNumbers(f)
		for n, node := range f.Nodes {
			if node.Kind != api.Doc {
				numbers = append(numbers, n)
			}
		}
		for _, n := range numbers {
			for _, s := range some {
				checkRead(t, "document "+strconv.Itoa(n), f, n, s, answer{f, api.None, api.ErrArg})
			}
		}
	}
}

// checkFresh checks what Fresh answers.
func checkFresh(t *testing.T, what, s string, most int, want answer) {
	t.Helper()
	f, n, err := print.Fresh(s, most)
	if n != want.n || err != want.err || !sample.Same(f, want.f) {
		t.Errorf("%s, at most %d: %v, %d, %d, not %v", what, most, f, n, err, want)
	}
	if err == api.OK && !sample.Apart(f) {
		t.Errorf("%s: lists of the answer share memory", what)
	}
}

// P8.3: a forest of its own for each text; with an error there is none.
func TestFresh(t *testing.T) {
	long := strings.Repeat("x", 1<<14+1)
	for _, s := range append(texts(), "", "x", "<p>", "()", frag(399), frag(400), long) {
		for _, most := range []int{1, 2, 3, 4, 5, 9, 20, 399, 400} {
			want := readByWords(sample.Forest(most), 0, s)
			if want.err != api.OK {
				want.f = api.Forest{}
			}
			checkFresh(t, strconv.Quote(s), s, most, want)
		}
		for _, most := range []int{0, -1, -400, 401, 1 << 20, sample.Least, sample.Greatest} {
			checkFresh(t, strconv.Quote(s), s, most, answer{n: api.None, err: api.ErrArg})
		}
	}
	one, n, err := print.Fresh(`<p a="1">"hi"</p>`, 3)
	if err != api.OK || n != 1 || len(one.Nodes) != 3 || one.Most != 3 || one.Nodes[0].Kids != nil || one.Nodes[1].Attrs[0].Value != "1" || one.Nodes[2].Data != "hi" {
		t.Errorf("%v, %d, %d", one, n, err)
	}
	sample.Scribble(one)
	checkFresh(t, "another time", `""`, 2, readByWords(sample.Forest(2), 0, `""`))
}

// same tells whether two nodes, and all that stands below them, shadows and all, are the same but for the
// numbers and the document.
func same(f api.Forest, a int, g api.Forest, b int) bool {
	n, m := f.Nodes[a], g.Nodes[b]
	if n.Kind != m.Kind || n.Name != m.Name || n.Is != m.Is || n.Data != m.Data || !slices.Equal(n.Attrs, m.Attrs) {
		return false
	}
	if (n.Under == api.None) != (m.Under == api.None) || n.Under != api.None && !same(f, n.Under, g, m.Under) {
		return false
	}
	return slices.EqualFunc(n.Kids, m.Kids, func(a, b int) bool { return same(f, a, g, b) })
}

// checkBack checks that what is put is read as it was, and put so again; of a Doc and a Shade nothing is read.
func checkBack(t *testing.T, what string, f api.Forest, n int) {
	t.Helper()
	s, err := print.Put(f, n)
	g, at, back := print.Fresh(s, api.MaxNodes)
	again, _ := print.Put(g, at)
	readable := f.Nodes[n].Kind != api.Doc && f.Nodes[n].Kind != api.Shade
	switch {
	case err != api.OK:
		t.Errorf("%s, %d isn't put: %d", what, n, err)
	case !readable && back != api.ErrForm:
		t.Errorf("%s, %d, a Doc or Shade: %d, not ErrForm", what, n, back)
	case readable && (back != api.OK || again != s || !forest.Right(g) || !same(f, n, g, at)):
		t.Errorf("%s, %d: read from %q, %d: %q", what, n, s, back, again)
	}
}

// P8.4: what is put is read as it was, and what is read is put so, of all nodes of the forests.
func TestBack(t *testing.T) {
	for what, f := range forests() {
		for n := range f.Nodes {
			if len(f.Nodes) < 50 || n%20 < 3 {
				checkBack(t, what, f, n)
			}
		}
	}
	for _, s := range texts() {
		f, n, err := print.Fresh(s, api.MaxNodes)
		if back, no := print.Put(f, n); err != api.OK || no != api.OK || back != s {
			t.Errorf("%q: put as %q, %d, %d", s, back, err, no)
		}
	}
}

// P8.4: what is put may be longer than what is read.
func TestBackLong(t *testing.T) {
	f := heavy(3)
	s, err := print.Put(f, 1)
	if err != api.OK || len(s) <= api.MaxText {
		t.Fatalf("%d, %d bytes", err, len(s))
	}
	checkFresh(t, "a long text", s, api.MaxNodes, answer{n: api.None, err: api.ErrLong})
	f.Nodes[2].Attrs, f.Nodes[1].Attrs = nil, f.Nodes[1].Attrs[:20]
	checkBack(t, "a shorter one", f, 1)
}
