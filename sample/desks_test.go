package sample_test

import (
	"slices"
	"strconv"
	"testing"

	"instar/api"
	"instar/desk"
	"instar/sample"
)

// What is told to be right is so, what is told to be wrong isn't, and both come anew with each call.
func TestDesks(t *testing.T) {
	spoil := func(d api.Desk) {
		for i := range d.Defs {
			d.Defs[i].Name = "p"
		}
		for i := range d.Waits {
			d.Waits[i].Name = "p"
		}
	}
	for range 2 {
		for what, d := range sample.RightDesks() {
			if !desk.Right(d) {
				t.Errorf("%s isn't right, or not any more", what)
			}
			spoil(d)
		}
		for what, d := range sample.WrongDesks() {
			if desk.Right(d) {
				t.Errorf("%s is right", what)
			}
			spoil(d)
		}
	}
	if d := sample.Manned(); len(d.Defs) != 12 || len(d.Waits) != 100000 || d.Next != 100000 {
		t.Error("not the desk that was meant")
	}
	if d := sample.Named(); !desk.Right(d) || len(d.Defs) != 5 || desk.Find(d, "x-e", "") != 4 || desk.Classed(d, 2) != 2 {
		t.Errorf("not the desk that was meant: %v", d)
	}
}

// Offices are right, the same for each seed, and have each definition somewhere, at each place.
func TestOffices(t *testing.T) {
	found := map[string]int{}
	for seed := range 300 {
		d := sample.Office(seed)
		if !desk.Right(d) || !sample.SameDesk(d, sample.Office(seed)) {
			t.Errorf("the office %d isn't right, or another one when asked for again", seed)
		}
		for at, x := range d.Defs {
			found[x.Name+" for "+x.Local]++
			found[x.Name+" at "+strconv.Itoa(at)]++
		}
		for _, w := range d.Waits {
			found[w.Name+" waits"]++
		}
	}
	if len(found) != 21 {
		t.Errorf("not the desks that were meant: %v", found)
	}
	for what, times := range found {
		if times < 10 {
			t.Errorf("seldom there: %s", what)
		}
	}
}

// deskChanges are ways to change a desk, in what it has and in its spare room.
func deskChanges() []func(d *api.Desk) {
	return []func(d *api.Desk){
		func(d *api.Desk) { d.Defs[1].Name = "x-e" },
		func(d *api.Desk) { d.Defs[1].Local = "p" },
		func(d *api.Desk) { d.Defs[0].Class = 9 },
		func(d *api.Desk) { d.Waits[2].Name = "x-e" },
		func(d *api.Desk) { d.Waits[2].Ticket = 6 },
		func(d *api.Desk) { _ = append(d.Defs, api.Def{}) },
		func(d *api.Desk) { _ = append(d.Waits, api.Wait{}) },
		func(d *api.Desk) { d.Next = 8 },
		func(d *api.Desk) { d.Busy = true },
		func(d *api.Desk) { d.Defs = d.Defs[:1] },
		func(d *api.Desk) { d.Waits = nil },
	}
}

// Desks are the same just where all is, and a copy is the same, but not the same memory.
func TestSameDesk(t *testing.T) {
	for i, change := range deskChanges() {
		d, room := sample.Desk(), i == 5 || i == 6
		e := sample.CopyDesk(d)
		if !sample.SameDesk(d, e) || cap(e.Defs) != 2 || cap(e.Waits) != 3 {
			t.Errorf("not a copy: %v", e)
		}
		change(&e)
		if sample.SameDesk(d, e) != room || !sample.SameDesk(d, sample.Desk()) {
			t.Errorf("the change %d isn't seen, or is one of both", i)
		}
	}
}

// Who asks is told what the call answers, and whether it changed or shared what it was given.
func TestAskDesk(t *testing.T) {
	want := sample.Desk()
	want.Next = 9
	if d, careful := sample.AskDesk(sample.Desk(), func(d api.Desk) api.Desk { e := sample.CopyDesk(d); e.Next = 9; return e }); !careful || !sample.SameDesk(d, want) {
		t.Errorf("told %v, and answered %v", careful, d)
	}
	if _, careful := sample.AskDesk(sample.Desk(), func(d api.Desk) api.Desk { return d }); careful {
		t.Error("what was handed in is answered, and nobody sees it")
	}
	for what, call := range map[string]func(d api.Desk) api.Desk{
		"definitions": func(d api.Desk) api.Desk { return api.Desk{Defs: d.Defs[1:]} },
		"waits":       func(d api.Desk) api.Desk { return api.Desk{Waits: d.Waits[:1]} },
		"spare room":  func(d api.Desk) api.Desk { return api.Desk{Waits: slices.Clip(append(d.Waits[1:], api.Wait{})[2:])} },
	} {
		if _, careful := sample.AskDesk(sample.Desk(), call); careful {
			t.Errorf("%s are shared, and nobody sees it", what)
		}
	}
	for i, change := range deskChanges()[:7] {
		if _, careful := sample.AskDesk(sample.Desk(), func(d api.Desk) api.Desk { change(&d); return api.Desk{} }); careful {
			t.Errorf("the change %d isn't seen", i)
		}
	}
}
