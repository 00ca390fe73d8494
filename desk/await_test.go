package desk_test

import (
	"slices"
	"strconv"
	"testing"

	"instar/api"
	"instar/desk"
	"instar/sample"
)

// checkAwait checks what Await answers, and that what is handed in stays and shares nothing with the answer.
func checkAwait(t *testing.T, what string, d api.Desk, s string, want awaited) {
	t.Helper()
	var ticket, at int
	var err api.Errno
	e, careful := sample.AskDesk(d, func(d api.Desk) api.Desk {
		var e api.Desk
		e, ticket, at, err = desk.Await(d, s)
		return e
	})
	if ticket != want.ticket || at != want.at || err != want.err {
		t.Errorf("%s: Await(%.200q) = %d, %d, %d, not %d, %d, %d", what, s, ticket, at, err, want.ticket, want.at, want.err)
	}
	if !sample.SameDesk(e, want.d) {
		t.Errorf("%s: Await(%.200q) came to another desk than was asked", what, s)
	}
	if !careful {
		t.Errorf("%s: Await(%.200q) changed or shared what was handed in", what, s)
	}
	if err == api.OK && !desk.Right(e) {
		t.Errorf("%s: Await(%.200q) came to what isn't right", what, s)
	}
}

// P9.4: who waits for what is defined has its place at once; else the ticket waits behind all others.
func TestAwait(t *testing.T) {
	for what, d := range map[string]api.Desk{"some of all": sample.Desk(), "busy": sample.RightDesks()["some of all, busy"]} {
		next := d
		next.Next = 8
		checkAwait(t, what, d, "x-a", awaited{next, 7, 0, api.OK})
		checkAwait(t, what, d, "x-c", awaited{next, 7, 1, api.OK})
		for _, s := range []string{"x-b", "x-d", "x-e"} {
			next.Waits = append(slices.Clone(d.Waits), api.Wait{Name: s, Ticket: 7})
			checkAwait(t, what, d, s, awaited{next, 7, api.None, api.OK})
		}
		for _, s := range []string{"", "p", "button", "svg", "X-a", "X-e", "font-face"} {
			checkAwait(t, what, d, s, awaited{d, api.None, api.None, api.ErrName})
		}
	}
}

// P9.4: the last ticket, the errors, and which of them comes first.
func TestAwaitErrors(t *testing.T) {
	last := sample.Desk()
	last.Next = 99999
	over := sample.Desk()
	over.Next = 100000
	checkAwait(t, "the last ticket", last, "x-a", awaited{over, 99999, 0, api.OK})
	one := sample.CopyDesk(over)
	one.Waits = append(one.Waits, api.Wait{Name: "x-e", Ticket: 99999})
	checkAwait(t, "the last ticket", last, "x-e", awaited{one, 99999, api.None, api.OK})
	for _, s := range []string{"x-a", "x-b", "x-e"} {
		checkAwait(t, "no ticket left", over, s, awaited{over, api.None, api.None, api.ErrLong})
	}
	checkAwait(t, "no ticket left", over, "p", awaited{over, api.None, api.None, api.ErrName})
	wrong := sample.WrongDesks()["Next 100001"]
	checkAwait(t, "Next 100001", wrong, "x-a", awaited{wrong, api.None, api.None, api.ErrArg})
	checkAwait(t, "Next 100001", wrong, "p", awaited{wrong, api.None, api.None, api.ErrArg})
}

// P9.4: all kinds of desks and names against the chapter's words.
func TestAwaitWords(t *testing.T) {
	for what, d := range desks() {
		if len(d.Waits) > 100 {
			checkAwait(t, what, d, "w-1", awaitByWords(d, "w-1"))
			d.Waits = d.Waits[:20]
			d.Next = 20
		}
		for _, s := range texts() {
			checkAwait(t, what, d, s, awaitByWords(d, s))
		}
	}
}

// The chapter's example.
func TestExample(t *testing.T) {
	var d api.Desk
	for ticket := range 2 {
		e, got, at, err := desk.Await(d, "x-a")
		if got != ticket || at != api.None || err != api.OK {
			t.Errorf("waited for: %d, %d, %d", got, at, err)
		}
		d = e
	}
	d, at, told, err := desk.Add(d, 1, "x-a", "", 0)
	if at != 0 || !slices.Equal(told, []int{0, 1}) || err != api.OK || len(d.Waits) != 0 {
		t.Errorf("defined: %v, %d, %v, %d", d, at, told, err)
	}
	if _, got, at, err := desk.Await(d, "x-a"); got != 2 || at != 0 || err != api.OK {
		t.Errorf("waited for once more: %d, %d, %d", got, at, err)
	}
}

// day is a day at the desk: which ticket is whose, and which were told already.
type day struct {
	d     api.Desk
	whose []string
	told  map[int]bool
}

// tell counts a ticket as told; it must be of that name, and not be told yet.
func (x *day) tell(t *testing.T, ticket int, s string) {
	if x.told[ticket] || x.whose[ticket] != s {
		t.Errorf("the ticket %d of %s is told for %s, told before: %v", ticket, x.whose[ticket], s, x.told[ticket])
	}
	x.told[ticket] = true
}

// await waits for a name, and counts the ticket, if it is told at once.
func (x *day) await(t *testing.T, s string) {
	d, ticket, at, err := desk.Await(x.d, s)
	if err != api.OK || ticket != len(x.whose) {
		t.Errorf("the ticket %d: %d, %d", len(x.whose), ticket, err)
		return
	}
	if x.d, x.whose = d, append(x.whose, s); at != api.None {
		x.tell(t, ticket, d.Defs[at].Name)
	}
}

// define defines a name, if it may be, and counts the tickets that are told.
func (x *day) define(t *testing.T, s string, class int) {
	d, _, told, _ := desk.Add(x.d, 12, s, "", class)
	x.d = d
	for _, ticket := range told {
		x.tell(t, ticket, s)
	}
}

// P9.5: each ticket is told once, when its name is defined, and waits till then.
func TestToldOnce(t *testing.T) {
	for seed := range 20 {
		x := day{told: map[int]bool{}}
		chance := uint32(seed)
		for range 200 {
			chance = chance*1664525 + 1013904223
			s := "x-" + strconv.Itoa(int(chance>>20)%15)
			if chance>>10%9 == 0 {
				x.define(t, s, int(chance>>28)%12)
			} else {
				x.await(t, s)
			}
			for ticket, s := range x.whose {
				defined := desk.Named(x.d, s) != api.None
				waits := slices.Contains(x.d.Waits, api.Wait{Name: s, Ticket: ticket})
				if x.told[ticket] != defined || waits == defined {
					t.Fatalf("the ticket %d of %s: told %v, waits %v, defined %v", ticket, s, x.told[ticket], waits, defined)
				}
			}
		}
		if len(x.d.Defs) < 3 || len(x.d.Waits) < 3 || len(x.told) < 20 {
			t.Errorf("the day %d wasn't a day: %v", seed, x.d)
		}
	}
}
