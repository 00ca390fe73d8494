package desk_test

import (
	"slices"
	"testing"

	"instar/api"
	"instar/desk"
	"instar/sample"
)

// checkAdd checks what May and Add answer, and that what is handed in stays and shares nothing with the answer.
func checkAdd(t *testing.T, what string, d api.Desk, a ask, want added) {
	t.Helper()
	var at int
	var told []int
	var err api.Errno
	e, careful := sample.AskDesk(d, func(d api.Desk) api.Desk {
		if err := desk.May(d, a.classes, a.s, a.base, a.class); err != want.err {
			t.Errorf("%s: May(%.200v) = %d, not %d", what, a, err, want.err)
		}
		var e api.Desk
		e, at, told, err = desk.Add(d, a.classes, a.s, a.base, a.class)
		return e
	})
	if at != want.at || !slices.Equal(told, want.told) || err != want.err {
		t.Errorf("%s: Add(%.200v) = %d, %v, %d, not %d, %v, %d", what, a, at, told, err, want.at, want.told, want.err)
	}
	if !sample.SameDesk(e, want.d) {
		t.Errorf("%s: Add(%.200v) came to another desk than was asked", what, a)
	}
	if !careful {
		t.Errorf("%s: Add(%.200v) changed or shared what was handed in", what, a)
	}
	if err == api.OK && !desk.Right(e) {
		t.Errorf("%s: Add(%.200v) came to what isn't right", what, a)
	}
}

// P9.3: the definition stands behind all others, and who waited for it doesn't any more.
func TestAdd(t *testing.T) {
	d := sample.Desk()
	had, waits := d.Defs, d.Waits
	for _, c := range []struct {
		a     ask
		def   api.Def
		waits []api.Wait
		told  []int
	}{
		{ask{3, "x-b", "", 1}, api.Def{Name: "x-b", Local: "x-b", Class: 1}, waits[1:2], []int{1, 5}},
		{ask{4, "x-d", "p", 3}, api.Def{Name: "x-d", Local: "p", Class: 3}, []api.Wait{waits[0], waits[2]}, []int{2}},
		{ask{12, "x-e", "button", 11}, api.Def{Name: "x-e", Local: "button", Class: 11}, waits, nil},
	} {
		want := api.Desk{Defs: append(slices.Clone(had), c.def), Waits: c.waits, Next: 7}
		checkAdd(t, "some of all", d, c.a, added{want, 2, c.told, api.OK})
	}
	want := api.Desk{Defs: []api.Def{{Name: "x-a", Local: "x-a"}}}
	checkAdd(t, "nothing", api.Desk{}, ask{1, "x-a", "", 0}, added{want, 0, nil, api.OK})
}

// P9.2: each error by itself, and the first one of several.
func TestMay(t *testing.T) {
	right, busy := sample.Desk(), sample.RightDesks()["some of all, busy"]
	wrong := sample.WrongDesks()["a class twice"]
	for _, c := range []struct {
		d    api.Desk
		a    ask
		want api.Errno
	}{
		{right, ask{3, "x-b", "", 1}, api.OK}, {right, ask{2, "x-b", "p", 1}, api.OK}, {right, ask{sample.Greatest, "x-b", "", 11}, api.OK},
		{wrong, ask{3, "x-b", "", 1}, api.ErrArg}, {right, ask{3, "x-b", "", -1}, api.ErrArg}, {right, ask{3, "x-b", "", 3}, api.ErrArg},
		{right, ask{13, "x-b", "", 12}, api.ErrArg}, {right, ask{0, "x-b", "", 0}, api.ErrArg}, {right, ask{-1, "x-b", "", 0}, api.ErrArg},
		{busy, ask{3, "x-a", "svg", 3}, api.ErrArg}, {busy, ask{3, "p", "svg", 3}, api.ErrArg},
		{right, ask{3, "", "", 1}, api.ErrName}, {right, ask{3, "p", "", 1}, api.ErrName}, {right, ask{3, "X-b", "", 1}, api.ErrName},
		{right, ask{3, "font-face", "", 1}, api.ErrName}, {busy, ask{3, "X-a", "svg", 2}, api.ErrName},
		{right, ask{3, "x-a", "", 1}, api.ErrAlready}, {right, ask{3, "x-c", "", 1}, api.ErrAlready}, {right, ask{3, "x-b", "", 2}, api.ErrAlready},
		{right, ask{3, "x-b", "", 0}, api.ErrAlready}, {busy, ask{3, "x-a", "svg", 1}, api.ErrAlready}, {busy, ask{3, "x-b", "svg", 2}, api.ErrAlready},
		{right, ask{3, "x-b", "svg", 1}, api.ErrNone}, {right, ask{3, "x-b", "x-b", 1}, api.ErrNone}, {right, ask{3, "x-b", "P", 1}, api.ErrNone},
		{right, ask{3, "x-b", "x-a", 1}, api.ErrNone}, {right, ask{3, "x-b", " ", 1}, api.ErrNone}, {busy, ask{3, "x-b", "svg", 1}, api.ErrNone},
		{busy, ask{3, "x-b", "", 1}, api.ErrState}, {busy, ask{3, "x-b", "p", 1}, api.ErrState},
	} {
		want := added{c.d, api.None, nil, c.want}
		if c.want == api.OK {
			want = addByWords(c.d, c.a)
		}
		checkAdd(t, "an error", c.d, c.a, want)
	}
}

// P9.2, P9.3: all kinds of desks, names and classes against the chapter's words.
func TestAddWords(t *testing.T) {
	added, asked := 0, 0
	for what, d := range desks() {
		d.Waits = d.Waits[:min(len(d.Waits), 20)]
		for _, s := range texts() {
			for _, base := range []string{"", "p", "button", "P", "svg", s, "x-b", "\xff"} {
				for _, class := range []int{0, 1, 2, 11, 12, -1, sample.Greatest, sample.Least} {
					for _, classes := range []int{3, 12, 40, 0, -1, sample.Greatest, sample.Least} {
						a := ask{classes, s, base, class}
						if asked++; desk.May(d, classes, s, base, class) != mayByWords(d, a) {
							t.Errorf("%s: May(%.200v) = %d", what, a, desk.May(d, classes, s, base, class))
						}
						if want := addByWords(d, a); want.err == api.OK || asked%61 == 0 {
							checkAdd(t, what, d, a, want)
							added++
						}
					}
				}
			}
		}
	}
	if added < 1000 {
		t.Errorf("only %d were added", added)
	}
}

// P9.3: twelve definitions may be, one of each class, in whatever order; behind them each class has one.
func TestAddAll(t *testing.T) {
	d := api.Desk{}
	for i := range 12 {
		class, s := (i*5+3)%12, "x-"+string(rune('a'+i))
		a := ask{12, s, "", class}
		checkAdd(t, "one more", d, a, addByWords(d, a))
		d, _, _, _ = desk.Add(d, 12, s, "", class)
	}
	for class := range 13 {
		if err := desk.May(d, 99, "x-z", "", class); err != api.ErrAlready && class < 12 || err != api.ErrArg && class == 12 {
			t.Errorf("the class %d once more: %d", class, err)
		}
	}
	if len(d.Defs) != 12 || !desk.Right(d) {
		t.Errorf("came to %v", d)
	}
}

// P9.3: as many as may wait are told, in order.
func TestAddMany(t *testing.T) {
	d := sample.Manned()
	d.Defs = d.Defs[:11]
	for i, w := range d.Waits {
		if i%4 == 1 || i > 99990 {
			d.Waits[i].Name = "w-1"
		} else {
			d.Waits[i].Name = w.Name[:2] + "0"
		}
	}
	for _, s := range []string{"w-0", "w-1", "w-2"} {
		a := ask{12, s, "", 0}
		checkAdd(t, "as many as may be", d, a, addByWords(d, a))
	}
}
