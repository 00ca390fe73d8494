package desk_test

import (
	"instar/api"
	"instar/name"
)

// What the chapter says, in its words one by one, for the tests to hold the answers against.

func rightByWords(d api.Desk) bool {
	names, classes := map[string]bool{}, map[int]bool{}
	for _, x := range d.Defs {
		if !name.Custom(x.Name) || names[x.Name] || classes[x.Class] || x.Class < 0 || x.Class > 11 {
			return false
		}
		if x.Local != x.Name && name.Kind(x.Local) != 2 {
			return false
		}
		names[x.Name], classes[x.Class] = true, true
	}
	for i, w := range d.Waits {
		if !name.Custom(w.Name) || names[w.Name] || w.Ticket < 0 || w.Ticket >= d.Next {
			return false
		}
		if i > 0 && d.Waits[i-1].Ticket >= w.Ticket {
			return false
		}
	}
	return d.Next >= 0 && d.Next <= 100000
}

// only answers the only place of a definition that is so: None, if there is none. It panics where there are two.
func only(d api.Desk, so func(x api.Def) bool) int {
	at := -1
	for i := range d.Defs {
		if so(d.Defs[i]) {
			if at != -1 {
				panic("two definitions for one")
			}
			at = i
		}
	}
	return at
}

func findByWords(d api.Desk, local, is string) int {
	if !rightByWords(d) {
		return -1
	}
	if at := only(d, func(x api.Def) bool { return x.Name == local && x.Local == local }); at != -1 {
		return at
	}
	return only(d, func(x api.Def) bool { return x.Name == is && x.Local == local })
}

func namedByWords(d api.Desk, s string) int {
	if !rightByWords(d) {
		return -1
	}
	return only(d, func(x api.Def) bool { return x.Name == s })
}

func classedByWords(d api.Desk, class int) int {
	if !rightByWords(d) {
		return -1
	}
	return only(d, func(x api.Def) bool { return x.Class == class })
}

// ask is what May and Add are asked.
type ask struct {
	classes int
	s, base string
	class   int
}

// mayByWords asks for each error by itself: the first one that applies is the answer.
func mayByWords(d api.Desk, a ask) api.Errno {
	had := false
	for _, x := range d.Defs {
		had = had || x.Name == a.s || x.Class == a.class
	}
	inClasses := a.class >= 0 && a.class < a.classes
	for _, c := range []struct {
		applies bool
		err     api.Errno
	}{
		{!rightByWords(d) || !inClasses || a.class >= 12, api.ErrArg},
		{name.Kind(a.s) != 1, api.ErrName},
		{had, api.ErrAlready},
		{a.base != "" && name.Kind(a.base) != 2, api.ErrNone},
		{d.Busy, api.ErrState},
	} {
		if c.applies {
			return c.err
		}
	}
	return api.OK
}

// added is what Add answers.
type added struct {
	d    api.Desk
	at   int
	told []int
	err  api.Errno
}

func addByWords(d api.Desk, a ask) added {
	if err := mayByWords(d, a); err != api.OK {
		return added{d, -1, nil, err}
	}
	var told []int
	e := api.Desk{Next: d.Next}
	for _, x := range d.Defs {
		e.Defs = append(e.Defs, x)
	}
	if a.base == "" {
		a.base = a.s
	}
	e.Defs = append(e.Defs, api.Def{Name: a.s, Local: a.base, Class: a.class})
	for _, w := range d.Waits {
		if w.Name == a.s {
			told = append(told, w.Ticket)
		} else {
			e.Waits = append(e.Waits, w)
		}
	}
	return added{e, len(d.Defs), told, api.OK}
}

// awaited is what Await answers.
type awaited struct {
	d          api.Desk
	ticket, at int
	err        api.Errno
}

func awaitByWords(d api.Desk, s string) awaited {
	switch {
	case !rightByWords(d):
		return awaited{d, -1, -1, api.ErrArg}
	case name.Kind(s) != 1:
		return awaited{d, -1, -1, api.ErrName}
	case d.Next == 100000:
		return awaited{d, -1, -1, api.ErrLong}
	}
	at := namedByWords(d, s)
	e := api.Desk{Defs: d.Defs, Next: d.Next + 1, Busy: d.Busy}
	for _, w := range d.Waits {
		e.Waits = append(e.Waits, w)
	}
	if at == -1 {
		e.Waits = append(e.Waits, api.Wait{Name: s, Ticket: d.Next})
	}
	return awaited{e, d.Next, at, api.OK}
}
