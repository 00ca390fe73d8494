package able_test

import (
	"slices"
	"testing"

	"instar/able"
	"instar/api"
	"instar/forest"
	"instar/sample"
)

// check asks who is barred in f: just these.
func check(t *testing.T, what string, f api.Forest, want ...int) {
	t.Helper()
	if l := able.All(f); !slices.Equal(l, want) {
		t.Errorf("%s: All is %v, not %v", what, l, want)
	}
	for n := range f.Nodes {
		if able.Barred(f, n) != slices.Contains(want, n) {
			t.Errorf("%s: Barred(%d) isn't %t", what, n, slices.Contains(want, n))
		}
	}
}

// legends asks for the legends of f's nodes, which are these, from the node 1 on.
func legends(t *testing.T, what string, f api.Forest, want ...int) {
	t.Helper()
	for i, w := range want {
		if at := able.Legend(f, i+1); at != w {
			t.Errorf("%s: Legend(%d) = %d, not %d", what, i+1, at, w)
		}
	}
	if len(f.Nodes) != len(want)+1 {
		t.Errorf("%s: there are %d nodes", what, len(f.Nodes))
	}
}

// P14.1: the chapter's example: the fieldset and the second input.
func TestExample(t *testing.T) {
	s := `<fieldset disabled=""><legend><input></input></legend><input></input></fieldset>`
	check(t, "loose", sample.Loose(s), 1, 4)
	check(t, "connected", sample.Rooted(s), 1, 4)
	legends(t, "loose", sample.Loose(s), 2, -1, -1, -1)
	legends(t, "connected", sample.Rooted(s), 2, -1, -1, -1)
}

// P14.1: who has an attribute disabled is barred, whoever it is and whatever the value; below it nobody is, but
// of a fieldset.
func TestOwnAttribute(t *testing.T) {
	for s, want := range map[string][]int{
		`<input></input>`:                                                                     nil,
		`<input disabled=""></input>`:                                                         {1},
		`<input disabled="no"></input>`:                                                       {1},
		`<input disabled="false"></input>`:                                                    {1},
		`<input title="" disabled="" form="f"></input>`:                                       {1},
		`<input title="disabled" able="" disable="" disabled-a=""></input>`:                   nil,
		`<x-a disabled=""></x-a>`:                                                             {1},
		`<button!x-b disabled=""></button>`:                                                   {1},
		`<legend disabled=""><input></input></legend>`:                                        {1},
		`<form disabled=""><input></input></form>`:                                            {1},
		`<div disabled=""><p><b></b></p></div>`:                                               {1},
		`<x-fieldset disabled=""><input></input></x-fieldset>`:                                {1},
		`<fieldset disabled=""></fieldset>`:                                                   {1},
		`<p><input disabled=""></input><b></b><i disabled=""></i></p>`:                        {2, 4},
		`<fieldset><legend disabled=""><b></b></legend><i disabled=""></i><u></u></fieldset>`: {2, 4},
	} {
		check(t, s, sample.Loose(s), want...)
		check(t, s+", connected", sample.Rooted(s), want...)
	}
}

// P14.1: a fieldset with that attribute bars whoever stands under it, however far, whatever stands between; not
// one without it, nor another element with it, and nobody who stands beside it or above it.
func TestFieldset(t *testing.T) {
	for s, want := range map[string][]int{
		`<fieldset><input></input></fieldset>`:                                                  nil,
		`<fieldset disabled=""><input></input></fieldset>`:                                      {1, 2},
		`<fieldset disabled="no"><input></input></fieldset>`:                                    {1, 2},
		`<fieldset!x-a disabled=""><input></input></fieldset>`:                                  {1, 2},
		`<fieldset disabled=""><p><b><i><u></u></i></b></p><x-a></x-a></fieldset>`:              {1, 2, 3, 4, 5, 6},
		`<fieldset disabled=""><fieldset><input></input></fieldset></fieldset>`:                 {1, 2, 3},
		`<fieldset><fieldset disabled=""><input></input></fieldset><b></b></fieldset>`:          {2, 3},
		`<fieldset><div disabled=""><input></input></div></fieldset>`:                           {2},
		`<p><b></b><fieldset disabled=""><i></i></fieldset><u></u></p>`:                         {3, 4},
		`<fieldset disabled="">"a"<p>"b"</p>"c"</fieldset>`:                                     {1, 3},
		`<form><p><fieldset disabled=""><x-a></x-a></fieldset></p><x-a></x-a></form>`:           {3, 4},
		`<fieldset disabled=""><fieldset disabled=""><b disabled=""></b></fieldset></fieldset>`: {1, 2, 3},
	} {
		check(t, s, sample.Loose(s), want...)
		check(t, s+", connected", sample.Rooted(s), want...)
	}
}

// P14.1: a fieldset doesn't bar its legend, nor whoever stands below that.
func TestFreed(t *testing.T) {
	for s, want := range map[string][]int{
		`<fieldset disabled=""><legend></legend></fieldset>`:                                                       {1},
		`<fieldset disabled=""><legend><p><b><i></i></b></p></legend></fieldset>`:                                  {1},
		`<fieldset disabled=""><b></b><legend><i></i></legend><u></u></fieldset>`:                                  {1, 2, 5},
		`<fieldset disabled="">"t"<legend>"u"<i></i></legend></fieldset>`:                                          {1},
		`<fieldset disabled=""><legend!x-a><i></i></legend></fieldset>`:                                            {1},
		`<fieldset disabled=""><legend disabled=""><i></i></legend></fieldset>`:                                    {1, 2},
		`<fieldset disabled=""><legend><i disabled=""></i><b></b></legend></fieldset>`:                             {1, 3},
		`<fieldset disabled=""><legend><legend><i></i></legend></legend></fieldset>`:                               {1},
		`<fieldset disabled=""><legend><fieldset><i></i></fieldset></legend></fieldset>`:                           {1},
		`<fieldset disabled=""><legend><fieldset><legend></legend><i></i></fieldset></legend></fieldset>`:          {1},
		`<fieldset!x-a disabled=""><legend><i></i></legend><b></b></fieldset>`:                                     {1, 4},
		`<p><fieldset disabled=""><legend><i></i></legend></fieldset><fieldset disabled=""><b></b></fieldset></p>`: {2, 5, 6},
	} {
		check(t, s, sample.Loose(s), want...)
		check(t, s+", connected", sample.Rooted(s), want...)
	}
}

// P14.1: whoever only seems to be a fieldset's legend frees nobody: a second one, one further down, one beside
// it, another's, and such as have another name.
func TestNoLegend(t *testing.T) {
	for s, want := range map[string][]int{
		`<fieldset disabled=""><legend><i></i></legend><legend><b></b></legend></fieldset>`:               {1, 4, 5},
		`<fieldset disabled=""><legend></legend><p></p><legend><b></b></legend></fieldset>`:               {1, 3, 4, 5},
		`<fieldset disabled=""><p><legend><i></i></legend></p></fieldset>`:                                {1, 2, 3, 4},
		`<fieldset disabled=""><p><legend><i></i></legend></p><legend><b></b></legend></fieldset>`:        {1, 2, 3, 4},
		`<p><legend><i></i></legend><fieldset disabled=""><b></b></fieldset></p>`:                         {4, 5},
		`<legend><fieldset disabled=""><i></i></fieldset></legend>`:                                       {2, 3},
		`<fieldset disabled=""><fieldset><legend><i></i></legend></fieldset></fieldset>`:                  {1, 2, 3, 4},
		`<fieldset disabled=""><x-legend><i></i></x-legend></fieldset>`:                                   {1, 2, 3},
		`<fieldset disabled="">"legend"<i></i></fieldset>`:                                                {1, 3},
		`<fieldset disabled=""><i title="legend" legend=""></i></fieldset>`:                               {1, 2},
		`<fieldset disabled="">{<legend><i></i></legend>}<b></b></fieldset>`:                              {1, 5},
		`<fieldset disabled=""><p><legend><i></i></legend></p><b></b>"t"<legend></legend></fieldset>`:     {1, 2, 3, 4, 5},
		`<fieldset disabled=""><legend><legend></legend></legend><legend><i></i></legend></fieldset>`:     {1, 4, 5},
		`<fieldset disabled=""><fieldset disabled=""><legend><i></i></legend></fieldset></fieldset>`:      {1, 2, 3, 4},
		`<fieldset disabled=""><p><fieldset disabled=""><legend></legend></fieldset></p></fieldset>`:      {1, 2, 3, 4},
		`<fieldset disabled=""><legend></legend><fieldset><legend><i></i></legend></fieldset></fieldset>`: {1, 3, 4, 5},
	} {
		check(t, s, sample.Loose(s), want...)
		check(t, s+", connected", sample.Rooted(s), want...)
	}
}

// P14.1: each fieldset on the way up counts by itself: whom one lets be another one may bar, further up or
// further down.
func TestEachFieldset(t *testing.T) {
	for s, want := range map[string][]int{
		`<fieldset disabled=""><legend><fieldset disabled=""><i></i></fieldset><b></b></legend></fieldset>`:                                   {1, 3, 4},
		`<fieldset disabled=""><legend><fieldset disabled=""><legend><i></i></legend><b></b></fieldset></legend></fieldset>`:                  {1, 3, 6},
		`<fieldset disabled=""><legend><fieldset><legend></legend><b></b></fieldset></legend><u></u></fieldset>`:                              {1, 6},
		`<fieldset><legend><fieldset disabled=""><i></i></fieldset></legend><b></b></fieldset>`:                                               {3, 4},
		`<fieldset disabled=""><p><fieldset disabled=""><legend><i></i></legend></fieldset></p><legend><b></b></legend></fieldset>`:           {1, 2, 3, 4, 5},
		`<fieldset disabled=""><fieldset><fieldset disabled=""><legend><i></i></legend></fieldset></fieldset></fieldset>`:                     {1, 2, 3, 4, 5},
		`<fieldset disabled=""><legend><p><fieldset disabled=""><legend></legend><legend><i></i></legend></fieldset></p></legend></fieldset>`: {1, 4, 6, 7},
	} {
		check(t, s, sample.Loose(s), want...)
		check(t, s+", connected", sample.Rooted(s), want...)
	}
}

// P14.1: who stands in a shadow stands under nobody outside of it; inside all is as elsewhere.
func TestShadows(t *testing.T) {
	for s, want := range map[string][]int{
		`<fieldset disabled=""><x-a>{<i></i>}<b></b></x-a></fieldset>`:                                                   {1, 2, 5},
		`<fieldset disabled="">{<i></i>}<b></b></fieldset>`:                                                              {1, 4},
		`<x-a>{<fieldset disabled=""><legend><i></i></legend><b></b></fieldset><u></u>}<i></i></x-a>`:                    {3, 6},
		`<x-a>{<i disabled=""></i><x-b disabled="">{<b></b>}</x-b>}</x-a>`:                                               {3, 4},
		`<fieldset disabled=""><legend><x-a>{<i></i><fieldset disabled=""><b></b></fieldset>}</x-a></legend></fieldset>`: {1, 6, 7},
		`<fieldset disabled=""><x-a>{<fieldset><x-b>{<i></i>}<b></b></x-b></fieldset>}</x-a></fieldset>`:                 {1, 2},
		`<fieldset disabled=""><legend disabled="">{<i></i>}</legend></fieldset>`:                                        {1, 2},
	} {
		check(t, s, sample.Loose(s), want...)
		check(t, s+", connected", sample.Rooted(s), want...)
	}
}

// P14.1: whoever is no Elem is not barred, wherever it stands; and below a Frag all is as elsewhere.
func TestNoElem(t *testing.T) {
	for s, want := range map[string][]int{
		`"disabled"`: nil,
		`[]`:         nil,
		`["t"<fieldset disabled="">"u"<legend>"v"</legend><i></i></fieldset><b></b>]`: {3, 7},
		`[<legend><i></i></legend><b disabled=""></b>]`:                               {4},
	} {
		check(t, s, sample.Loose(s), want...)
	}
	check(t, "a Doc", sample.Forest(1))
}

// P14.1: the first child that is an Elem of that name, whoever it is that has the children, and in their order,
// not that of the numbers.
func TestLegend(t *testing.T) {
	for s, want := range map[string][]int{
		`<fieldset></fieldset>`:                                          {-1},
		`<p><legend></legend></p>`:                                       {2, -1},
		`<fieldset><legend></legend><legend></legend></fieldset>`:        {2, -1, -1},
		`<fieldset>"legend"<b></b><legend!x-a></legend></fieldset>`:      {4, -1, -1, -1},
		`<fieldset><p><legend></legend></p></fieldset>`:                  {-1, 3, -1},
		`<fieldset><p><legend></legend></p><legend></legend></fieldset>`: {4, 3, -1, -1},
		`<legend><legend></legend></legend>`:                             {2, -1},
		`<legend></legend>`:                                              {-1},
		`<fieldset><x-legend></x-legend><b legend=""></b></fieldset>`:    {-1, -1, -1},
		`<fieldset>{<legend></legend>}</fieldset>`:                       {-1, 3, -1},
		`<x-a>{"t"<legend></legend>}<legend></legend></x-a>`:             {5, 4, -1, -1, -1},
		`[<b></b><legend></legend><legend></legend>]`:                    {3, -1, -1, -1},
		`"legend"`: {-1},
		`[]`:       {-1},
	} {
		legends(t, s, sample.Loose(s), want...)
	}
	f := sample.Forest(9, sample.Elem("legend"), sample.Elem("legend"), sample.Elem("fieldset"))
	sample.Hang(f, 3, 2, 1)
	legends(t, "against the numbers", f, -1, -1, 2)
	if at := able.Legend(f, 0); at != api.None {
		t.Errorf("an empty Doc's is %d", at)
	}
	if at := able.Legend(sample.Rooted(`<legend></legend>`), 0); at != 1 {
		t.Errorf("a Doc's is %d", at)
	}
	if at := able.Legend(sample.Rooted(`<p><legend></legend></p>`), 0); at != api.None {
		t.Errorf("a Doc's, whose child has one, is %d", at)
	}
}

// P14.1: the numbers rise, whatever the tree order; the first legend in tree order counts, not by its number;
// and each document's trees are asked.
func TestOrder(t *testing.T) {
	barrier := api.Node{Kind: api.Elem, Name: "fieldset", Attrs: []api.Attr{{Name: "disabled"}}}
	f := sample.Forest(20, sample.Elem("i"), sample.Elem("legend"), sample.Elem("b"), sample.Elem("legend"), barrier, sample.Text("t"), api.Node{Kind: api.Doc})
	f = sample.Plant(f, sample.Of(7, sample.Elem("u")), sample.Of(7, barrier), sample.Of(7, barrier))
	sample.Hang(f, 5, 6, 4, 3, 2)
	sample.Hang(f, 2, 1)
	check(t, "loose", f, 1, 2, 3, 5, 9, 10)
	sample.Hang(f, 0, 5)
	check(t, "connected", f, 1, 2, 3, 5, 9, 10)
	sample.Hang(f, 7, 9)
	sample.Hang(f, 9, 8)
	check(t, "of another document", f, 1, 2, 3, 5, 8, 9, 10)
	sample.Cut(f, 4)
	check(t, "the first legend is taken out", f, 3, 5, 8, 9, 10)
}

// P14.1: of a number without a node nothing is told.
func TestWrongNumbers(t *testing.T) {
	all := sample.Right()
	all["a fieldset"] = sample.Rooted(`<fieldset disabled=""><legend></legend><i></i></fieldset>`)
	for what, f := range all {
		for _, n := range sample.WrongNumbers(f) {
			if at, barred := able.Legend(f, n), able.Barred(f, n); at != api.None || barred {
				t.Errorf("%s: of %d: Legend %d, Barred %t", what, n, at, barred)
			}
		}
	}
}

// P14.1: of what is no forest nothing is told, in whatever the fault is.
func TestWrongForests(t *testing.T) {
	all := sample.Wrong()
	for what, spoil := range map[string]func(f *api.Forest){
		"Most 0":                   func(f *api.Forest) { f.Most = 0 },
		"too many":                 func(f *api.Forest) { f.Most = 4 },
		"disabled twice":           func(f *api.Forest) { f.Nodes[1].Attrs = append(f.Nodes[1].Attrs, f.Nodes[1].Attrs[0]) },
		"a great DISABLED":         func(f *api.Forest) { f.Nodes[1].Attrs[0].Name = "DISABLED" },
		"a Text that is disabled":  func(f *api.Forest) { f.Nodes[4].Attrs = []api.Attr{{Name: "disabled"}} },
		"a Text named legend":      func(f *api.Forest) { f.Nodes[4].Name = "legend" },
		"a great Legend":           func(f *api.Forest) { f.Nodes[2].Name = "Legend" },
		"a fieldset in itself":     func(f *api.Forest) { sample.Cut(*f, 1); sample.Hang(*f, 1, 1) },
		"a fieldset in its legend": func(f *api.Forest) { sample.Cut(*f, 1); sample.Hang(*f, 2, 1) },
	} {
		f := sample.Rooted(`<fieldset disabled=""><legend></legend><i></i>"t"</fieldset>`)
		spoil(&f)
		all[what] = f
	}
	for what, f := range all {
		if forest.Right(f) {
			t.Errorf("%s: is right", what)
		}
		if l := able.All(f); len(l) != 0 {
			t.Errorf("%s: All is %v", what, l)
		}
		for n := -1; n <= len(f.Nodes); n++ {
			if at, barred := able.Legend(f, n), able.Barred(f, n); at != api.None || barred {
				t.Errorf("%s: of %d: Legend %d, Barred %t", what, n, at, barred)
			}
		}
	}
}
