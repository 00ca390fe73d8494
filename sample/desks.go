package sample

import (
	"slices"
	"strconv"
	"strings"

	"instar/api"
)

// Desk answers a desk with some of all: the names x-a (by class 2) and x-c (of buttons, by class 0) are
// defined, x-b, x-d and x-b again are waited for, tickets between are told already.
func Desk() api.Desk {
	return api.Desk{
		Defs:  []api.Def{{Name: "x-a", Local: "x-a", Class: 2}, {Name: "x-c", Local: "button"}},
		Waits: []api.Wait{{Name: "x-b", Ticket: 1}, {Name: "x-d", Ticket: 2}, {Name: "x-b", Ticket: 5}},
		Next:  7,
	}
}

// Manned answers a desk with as many definitions and tickets as may be; in turn the tickets wait for w-0,
// w-1, w-2 and w-3.
func Manned() api.Desk {
	d := api.Desk{Next: api.MaxTickets}
	for class := range api.MaxClasses {
		x := "d-" + strconv.Itoa(class)
		d.Defs = append(d.Defs, api.Def{Name: x, Local: x, Class: api.MaxClasses - 1 - class})
	}
	for ticket := range api.MaxTickets {
		d.Waits = append(d.Waits, api.Wait{Name: "w-" + strconv.Itoa(ticket%4), Ticket: ticket})
	}
	return d
}

// Named answers a desk whose definitions are for x-a, x-b, x-c, x-d and x-e, in order, each by the class of its place.
func Named() api.Desk {
	var d api.Desk
	for class, s := range []string{"x-a", "x-b", "x-c", "x-d", "x-e"} {
		d.Defs = append(d.Defs, api.Def{Name: s, Local: s, Class: class})
	}
	return d
}

// RightDesks answers desks that are right, at the edges.
func RightDesks() map[string]api.Desk {
	long := "x-" + strings.Repeat("a", api.MaxName-2)
	busy := Desk()
	busy.Busy = true
	return map[string]api.Desk{
		"nothing":           {},
		"empty lists":       {Defs: []api.Def{}, Waits: []api.Wait{}},
		"nothing, but busy": {Busy: true},
		"some of all":       Desk(),
		"some of all, busy": busy,
		"as much as may be": Manned(),
		"no tickets left":   {Next: api.MaxTickets},
		"the last ticket":   {Next: api.MaxTickets, Waits: []api.Wait{{Name: "x-a", Ticket: api.MaxTickets - 1}}},
		"the only ticket":   {Next: 1, Waits: []api.Wait{{Name: "x-a"}}},
		"one for many":      {Next: 3, Waits: []api.Wait{{Name: "x-a"}, {Name: "x-a", Ticket: 1}, {Name: "x-a", Ticket: 2}}},
		"the last class":    {Defs: []api.Def{{Name: "x-a", Local: "x-a", Class: 11}}},
		"one known name":    {Defs: []api.Def{{Name: "x-a", Local: "p"}, {Name: "x-b", Local: "p", Class: 1}}},
		"40 signs":          {Defs: []api.Def{{Name: long, Local: long}}},
		"odd names":         {Defs: []api.Def{{Name: "a-", Local: "a-"}, {Name: "a-._9", Local: "ul", Class: 1}}},
	}
}

// WrongDesks answers desks that aren't right, each with one fault.
func WrongDesks() map[string]api.Desk {
	wrong := map[string]api.Desk{}
	for what, spoil := range map[string]func(d *api.Desk){
		"Next -1":                     func(d *api.Desk) { d.Next, d.Waits = -1, nil },
		"the least Next":              func(d *api.Desk) { d.Next, d.Waits = Least, nil },
		"Next 100001":                 func(d *api.Desk) { d.Next = api.MaxTickets + 1 },
		"the greatest Next":           func(d *api.Desk) { d.Next = Greatest },
		"a known name":                func(d *api.Desk) { d.Defs[0] = api.Def{Name: "p", Local: "p"} },
		"a name with capitals":        func(d *api.Desk) { d.Defs[1].Name = "X-c" },
		"a reserved name":             func(d *api.Desk) { d.Defs[0] = api.Def{Name: "font-face", Local: "font-face", Class: 2} },
		"no name":                     func(d *api.Desk) { d.Defs[1].Name = "" },
		"41 signs":                    func(d *api.Desk) { d.Defs[1].Name = "x-" + strings.Repeat("a", api.MaxName-1) },
		"a name twice":                func(d *api.Desk) { d.Defs[1].Name = "x-a" },
		"for no name":                 func(d *api.Desk) { d.Defs[0].Local = "" },
		"for another custom name":     func(d *api.Desk) { d.Defs[0].Local = "x-c" },
		"for an unknown name":         func(d *api.Desk) { d.Defs[1].Local = "svg" },
		"for a name with capitals":    func(d *api.Desk) { d.Defs[1].Local = "Button" },
		"class -1":                    func(d *api.Desk) { d.Defs[0].Class = -1 },
		"class 12":                    func(d *api.Desk) { d.Defs[1].Class = api.MaxClasses },
		"the greatest class":          func(d *api.Desk) { d.Defs[1].Class = Greatest },
		"a class twice":               func(d *api.Desk) { d.Defs[1].Class = 2 },
		"13 definitions":              func(d *api.Desk) { d.Defs = append(Manned().Defs, api.Def{Name: "x-e", Local: "x-e"}) },
		"a wait for a known name":     func(d *api.Desk) { d.Waits[1].Name = "p" },
		"a wait for no name":          func(d *api.Desk) { d.Waits[0].Name = "" },
		"a wait with capitals":        func(d *api.Desk) { d.Waits[2].Name = "x-B" },
		"a wait for what is there":    func(d *api.Desk) { d.Waits[1].Name = "x-a" },
		"a wait for the last one":     func(d *api.Desk) { d.Waits[2].Name = "x-c" },
		"ticket -1":                   func(d *api.Desk) { d.Waits[0].Ticket = -1 },
		"the least ticket":            func(d *api.Desk) { d.Waits[0].Ticket = Least },
		"a ticket twice":              func(d *api.Desk) { d.Waits[1].Ticket = 1 },
		"the ticket of the first one": func(d *api.Desk) { d.Waits[2].Ticket = 1 },
		"tickets that go back":        func(d *api.Desk) { d.Waits[0].Ticket = 3 },
		"the next ticket":             func(d *api.Desk) { d.Waits[2].Ticket = 7 },
		"the greatest ticket":         func(d *api.Desk) { d.Waits[2].Ticket = Greatest },
		"Next behind the tickets":     func(d *api.Desk) { d.Next = 5 },
		"tickets, and Next 0":         func(d *api.Desk) { d.Next = 0 },
	} {
		d := Desk()
		spoil(&d)
		wrong[what] = d
	}
	return wrong
}

// SameDesk tells whether two desks are the same.
func SameDesk(d, e api.Desk) bool {
	return slices.Equal(d.Defs, e.Defs) && slices.Equal(d.Waits, e.Waits) && d.Next == e.Next && d.Busy == e.Busy
}

// CopyDesk answers d in memory of its own, without spare room.
func CopyDesk(d api.Desk) api.Desk {
	d.Defs, d.Waits = slices.Clip(slices.Clone(d.Defs)), slices.Clip(slices.Clone(d.Waits))
	return d
}

// AskDesk answers, in memory of its own, what a call answers to d, and whether it is careful with memory: it
// neither changes what it is given, spare room and all, nor shares memory with that.
func AskDesk(d api.Desk, call func(d api.Desk) api.Desk) (api.Desk, bool) {
	given := d
	given.Defs = append(slices.Clone(d.Defs), api.Def{Name: "spare"}, api.Def{})
	given.Waits = append(slices.Clone(d.Waits), api.Wait{Name: "spare"}, api.Wait{})
	whole := CopyDesk(given)
	given.Defs, given.Waits = given.Defs[:len(d.Defs)], given.Waits[:len(d.Waits)]
	e := call(given)
	answer := CopyDesk(e)
	for i := range e.Defs[:cap(e.Defs)] {
		e.Defs[:cap(e.Defs)][i] = api.Def{Name: "mine"}
	}
	for i := range e.Waits[:cap(e.Waits)] {
		e.Waits[:cap(e.Waits)][i] = api.Wait{Name: "mine"}
	}
	given.Defs, given.Waits = given.Defs[:len(whole.Defs)], given.Waits[:len(whole.Waits)]
	return answer, SameDesk(given, whole)
}
