package owner_test

import (
	"slices"
	"testing"

	"instar/api"
	"instar/owner"
	"instar/sample"
)

// check asks for the owners of f, whose owners these are, from the node 1 on, and for the members.
func check(t *testing.T, what string, f api.Forest, want ...int) {
	t.Helper()
	want = append([]int{api.None}, want...)
	if l := owner.All(f); !slices.Equal(l, want) {
		t.Errorf("%s: All is %v, not %v", what, l, want)
	}
	for n, w := range want {
		if at := owner.Of(f, n); at != w {
			t.Errorf("%s: Of(%d) = %d, not %d", what, n, at, w)
		}
		if l := owner.Members(f, n); !slices.Equal(l, membersByWords(f, n)) {
			t.Errorf("%s: Members(%d) = %v", what, n, l)
		}
	}
}

// P13.1: the chapter's example: below, and elsewhere, if that is connected.
func TestExample(t *testing.T) {
	s := `<div><form id="f"><p><input></input></p></form><input form="f"></input></div>`
	check(t, "connected", sample.Rooted(s), -1, -1, 2, 2, 2)
	check(t, "loose", sample.Loose(s), -1, -1, 2, 2, -1)
	if l := owner.Members(sample.Rooted(s), 2); !slices.Equal(l, []int{3, 4, 5}) {
		t.Error(l)
	}
}

// P13.1: the nearest form above owns, whatever stands between, and whether that is connected or not; nobody
// owns a form by being it.
func TestNearest(t *testing.T) {
	for s, want := range map[string][]int{
		`<form></form>`:          {-1},
		`<p><input></input></p>`: {-1, -1},
		`<form><input></input><x-a></x-a><button!x-b></button></form>`:        {-1, 1, 1, 1},
		`<form><p><b><i><u></u></i></b></p></form>`:                           {-1, 1, 1, 1, 1},
		`<form><b></b><form><i></i><p><form><u></u></form></p></form></form>`: {-1, 1, 1, 3, 3, 3, 6},
		`<p><form><i></i></form><b></b><form><u></u></form></p>`:              {-1, -1, 2, -1, -1, 5},
		`<form!x-a><input></input></form>`:                                    {-1, 1},
		`<form><x-form><input></input></x-form></form>`:                       {-1, 1, 1},
		`<x-form><input></input></x-form>`:                                    {-1, -1},
		`<form id="f"><i id="f"></i></form>`:                                  {-1, 1},
		`<form title="f"><i title="f"></i></form>`:                            {-1, 1},
	} {
		check(t, s, sample.Loose(s), want...)
		check(t, s+", connected", sample.Rooted(s), want...)
	}
	check(t, "a Frag", sample.Loose(`[<form><i></i></form><b></b>]`), -1, -1, 2, -1)
}

// P13.1: a Text, and whatever else is no Elem, has no owner.
func TestNoElem(t *testing.T) {
	s := `<form>"a"<p>"b"</p><x-a>{"c"<i></i>}"d"</x-a></form>`
	check(t, s, sample.Rooted(s), -1, -1, 1, -1, 1, -1, -1, -1, -1)
	check(t, s, sample.Loose(s), -1, -1, 1, -1, 1, -1, -1, -1, -1)
	check(t, "a Text alone", sample.Loose(`"form"`), -1)
	check(t, "an empty Frag", sample.Loose(`[]`), -1)
}

// P13.1: nobody is owned from outside of a shadow, neither as a child nor by an id, nor into one.
func TestShadows(t *testing.T) {
	for s, want := range map[string][]int{
		`<form><x-a>{<i></i><form><b></b></form>}<u></u></x-a></form>`:                    {-1, 1, -1, -1, -1, 5, 1},
		`<p><form id="f"></form><x-a>{<i form="f"></i>}</x-a></p>`:                        {-1, -1, -1, -1, -1},
		`<p><i form="f"></i><x-a>{<form id="f"></form>}</x-a></p>`:                        {-1, -1, -1, -1, -1},
		`<p><x-a>{<form id="f"></form><p><i form="f"></i></p>}</x-a><i form="f"></i></p>`: {-1, -1, -1, -1, -1, 4, -1},
		`<p><x-a>{<b id="f"></b>}</x-a><i form="f"></i><form id="f"></form></p>`:          {-1, -1, -1, -1, 6, -1},
		`<form id="f"><x-a>{<i form="f"></i><b id="f"></b>}<u form="f"></u></x-a></form>`: {-1, 1, -1, -1, -1, 1},
		`<form id="f">{<i form="f"></i>}</form>`:                                          {-1, -1, -1},
		`<x-a>{<x-b>{<form id="f"></form><i form="f"></i>}<i form="f"></i></x-b>}</x-a>`:  {-1, -1, -1, -1, -1, 5, -1},
	} {
		check(t, s, sample.Rooted(s), want...)
	}
	s := `<p><x-a>{<form id="f"></form><form><i form="f"></i></form>}</x-a></p>`
	check(t, s, sample.Loose(s), -1, -1, -1, -1, -1, 5)
	check(t, s+", connected", sample.Rooted(s), -1, -1, -1, -1, -1, 4)
}

// P13.1: by an id the first in tree order is chosen, from the Root on; who chose has no other owner, even
// where there is no such form.
func TestChosen(t *testing.T) {
	for s, want := range map[string][]int{
		`<p><form id="f"></form><form id="f"></form><i form="f"></i></p>`:                                                         {-1, -1, -1, 2},
		`<p><i form="f"></i><form id="f"></form><form id="f"></form></p>`:                                                         {-1, 3, -1, -1},
		`<p><form id="g"></form><form id="f"></form><i form="f"></i></p>`:                                                         {-1, -1, -1, 3},
		`<p><b id="f"></b><form id="f"></form><i form="f"></i></p>`:                                                               {-1, -1, -1, -1},
		`<p><b><u id="f"></u></b><form id="f"></form><i form="f"></i></p>`:                                                        {-1, -1, -1, -1, -1},
		`<p><form id="f"></form><b id="f"></b><i form="f"></i></p>`:                                                               {-1, -1, -1, 2},
		`<p id="f"><form id="f"><i form="f"></i></form></p>`:                                                                      {-1, -1, -1},
		`<form id="f"><form id="g"><i form="f"></i><b form="g"></b></form></form>`:                                                {-1, 1, 1, 2},
		`<form><i form="f"></i></form>`:                                                                                           {-1, -1},
		`<form id="g"><i form="f"></i></form>`:                                                                                    {-1, -1},
		`<form id="f"><i form=""></i></form>`:                                                                                     {-1, -1},
		`<form id=""><i form=""></i></form>`:                                                                                      {-1, -1},
		`<form id="f"><i form="F"></i></form>`:                                                                                    {-1, -1},
		`<form id="f"><i form=" f"></i><i form="f "></i></form>`:                                                                  {-1, -1, -1},
		`<form title="f"><i form="f"></i></form>`:                                                                                 {-1, -1},
		`<form form="f"><i form="f"></i></form>`:                                                                                  {-1, -1},
		`<form id="f" form="f"><i></i></form>`:                                                                                    {1, 1},
		`<i id="f" form="f"></i>`:                                                                                                 {-1},
		`<form id="f"><p form="g"><form id="g"><i></i></form><b></b></p></form>`:                                                  {-1, 3, 1, 3, 1},
		`<p form="f"><form id="f" form="g"></form><form id="g" form="f"></form></p>`:                                              {2, 3, 2},
		`<p><form!x-a id="f"></form><i form="f"></i></p>`:                                                                         {-1, -1, 2},
		`<p><x-form id="f"></x-form><i form="f"></i></p>`:                                                                         {-1, -1, -1},
		`<p><form title="t" id="f"></form><i title="t" disabled="" form="f"></i></p>`:                                             {-1, -1, 2},
		`<p><form id="\"\\"></form><i form="\"\\"></i><form id="` + "\xff\x00" + `"></form><i form="` + "\xff\x00" + `"></i></p>`: {-1, -1, 2, -1, 4},
	} {
		check(t, s, sample.Rooted(s), want...)
	}
}

// P13.1: who isn't connected chooses nobody: the nearest form above owns it.
func TestLoose(t *testing.T) {
	for s, want := range map[string][]int{
		`<p><form id="f"></form><i form="f"></i></p>`:                      {-1, -1, -1},
		`<p><form id="f"></form><form><i form="f"></i></form></p>`:         {-1, -1, -1, 3},
		`<form><i form=""></i><b form="g"></b></form>`:                     {-1, 1, 1},
		`[<form id="f"></form><form><i form="f"></i></form>]`:              {-1, -1, -1, 3},
		`<form id="f" form="f"><i></i></form>`:                             {-1, 1},
		`[<x-a>{<form id="f"></form><form><i form="f"></i></form>}</x-a>]`: {-1, -1, -1, -1, -1, 5},
	} {
		check(t, s, sample.Loose(s), want...)
	}
}

// P13.1: each document has its own ids, and each is a document to be connected to; what is loose has others.
func TestDocs(t *testing.T) {
	form := api.Node{Kind: api.Elem, Name: "form", Attrs: []api.Attr{{Name: "id", Value: "f"}}}
	input := api.Node{Kind: api.Elem, Name: "input", Attrs: []api.Attr{{Name: "form", Value: "f"}}}
	f := sample.Forest(20, sample.Elem("p"), input, api.Node{Kind: api.Doc})
	f = sample.Plant(f, sample.Of(3, sample.Elem("p")), sample.Of(3, form), sample.Of(3, input), form, input)
	sample.Hang(f, 0, 1)
	sample.Hang(f, 1, 2)
	check(t, "nobody has the id in the document 0", f, -1, -1, -1, -1, -1, -1, -1, -1)
	sample.Hang(f, 4, 6, 5)
	check(t, "the other's p isn't in it", f, -1, -1, -1, -1, -1, -1, -1, -1)
	sample.Hang(f, 3, 4)
	check(t, "the other one's own", f, -1, -1, -1, -1, -1, 5, -1, -1)
	sample.Hang(f, 1, 8, 7)
	check(t, "each has its own", f, -1, 7, -1, -1, -1, 5, -1, 7)
}

// P13.1, P13.2: tree order counts, not that of the numbers.
func TestTreeOrder(t *testing.T) {
	form := api.Node{Kind: api.Elem, Name: "form", Attrs: []api.Attr{{Name: "id", Value: "f"}}}
	input := api.Node{Kind: api.Elem, Name: "input", Attrs: []api.Attr{{Name: "form", Value: "f"}}}
	f := sample.Forest(20, input, form, input, sample.Elem("b"), form, sample.Elem("div"), input, sample.Text("t"), sample.Elem("i"))
	sample.Hang(f, 0, 6)
	sample.Hang(f, 6, 7, 5, 3, 2, 1)
	sample.Hang(f, 5, 9, 8, 4)
	check(t, "against the numbers", f, 5, -1, 5, 5, -1, -1, 5, -1, 5)
	for x, want := range map[int][]int{5: {7, 9, 4, 3, 1}, 2: nil, 0: nil, 6: nil, 7: nil, 8: nil, 4: nil} {
		if l := owner.Members(f, x); !slices.Equal(l, want) {
			t.Errorf("Members(%d) = %v, not %v", x, l, want)
		}
	}
	sample.Cut(f, 5)
	check(t, "the first one is taken out", f, 2, -1, 2, 5, -1, -1, 2, -1, 5)
	if l := owner.Members(f, 2); !slices.Equal(l, []int{7, 3, 1}) {
		t.Errorf("Members(2) = %v", l)
	}
}

// P13.2: whoever owns itself is its own member; so is a form of another one; and below a form stand others' members.
func TestMembers(t *testing.T) {
	s := `<div><i form="f"></i><form id="f" form="f"><b></b><form id="g"><u form="f"></u><i></i></form><p>"t"</p><b form="g"></b></form><u form="g"></u></div>`
	f := sample.Rooted(s)
	for x, want := range map[int][]int{3: {2, 3, 4, 5, 6, 8}, 5: {7, 10, 11}} {
		if l := owner.Members(f, x); !slices.Equal(l, want) {
			t.Errorf("Members(%d) = %v, not %v", x, l, want)
		}
	}
	for _, x := range []int{0, 1, 2, 4, 6, 7, 8, 9, 10, 11} {
		if l := owner.Members(f, x); len(l) != 0 {
			t.Errorf("Members(%d) = %v", x, l)
		}
	}
	if l := owner.Members(sample.Rooted(`<form></form>`), 1); len(l) != 0 {
		t.Errorf("an empty form has %v", l)
	}
}

// P13.1, P13.2: of a number without a node nothing is told.
func TestWrongNumbers(t *testing.T) {
	all := sample.Right()
	all["a form"] = sample.Rooted(`<form id="f"><i></i><b form="f"></b></form>`)
	for what, f := range all {
		for _, n := range sample.WrongNumbers(f) {
			if at, l := owner.Of(f, n), owner.Members(f, n); at != api.None || len(l) != 0 {
				t.Errorf("%s: of %d: Of %d, Members %v", what, n, at, l)
			}
		}
	}
}

// P13.1, P13.2: of what is no forest nothing is told, in whatever the fault is.
func TestWrongForests(t *testing.T) {
	all := sample.Wrong()
	for what, spoil := range map[string]func(f *api.Forest){
		"too many":          func(f *api.Forest) { f.Most = 3 },
		"id twice":          func(f *api.Forest) { f.Nodes[1].Attrs = append(f.Nodes[1].Attrs, f.Nodes[1].Attrs[0]) },
		"a great ID":        func(f *api.Forest) { f.Nodes[1].Attrs[0].Name = "ID" },
		"a Text with an id": func(f *api.Forest) { f.Nodes[4].Attrs = []api.Attr{{Name: "form", Value: "f"}} },
		"a Text named form": func(f *api.Forest) { f.Nodes[4].Name = "form" },
		"a form in its own": func(f *api.Forest) { sample.Cut(*f, 1); sample.Hang(*f, 1, 1) },
	} {
		f := sample.Rooted(`<form id="f"><i></i><b form="f"></b>"t"</form>`)
		spoil(&f)
		all[what] = f
	}
	for what, f := range all {
		if l := owner.All(f); len(l) != 0 {
			t.Errorf("%s: All is %v", what, l)
		}
		for n := -1; n <= len(f.Nodes); n++ {
			if at, l := owner.Of(f, n), owner.Members(f, n); at != api.None || len(l) != 0 {
				t.Errorf("%s: of %d: Of %d, Members %v", what, n, at, l)
			}
		}
	}
}
