package sample_test

import (
	"slices"
	"strconv"
	"testing"

	"instar/api"
	"instar/sample"
)

// The classes hear of what is told that they hear of, and come anew with each call.
func TestClasses(t *testing.T) {
	for range 2 {
		l := sample.Classes()
		heard := []string{"141", "1235678", "12345678", "4", ""}
		for i, c := range l {
			kinds := ""
			for j, h := range c.Hooks {
				kinds += strconv.Itoa(h.Kind)
				c.Hooks[j].Kind = 77
			}
			if kinds != heard[i] || c.Form != (i == 1) || (len(c.Watch) > 0) != (i < 3) {
				t.Errorf("not the class that was meant, %d: %v", i, c)
			}
			for j := range c.Watch {
				c.Watch[j] = "mine"
			}
		}
	}
	if h := sample.Hook(api.Came, 4, 2); h.Kind != api.Came || len(h.Do) != 2 || h.Do[1] != (api.Op{Kind: 5, A: 105, B: 205, C: 305, S: "s", T: "t", Must: true}) {
		t.Errorf("not the hook that was meant: %v", h)
	}
}

// Guilds are the same for each seed, and others for others; some of their classes hear of a kind twice, or of
// nothing, and some that watch don't hear of it.
func TestGuilds(t *testing.T) {
	found := map[string]int{}
	for seed := range 100 {
		l := sample.Guild(seed)
		if len(l) != 6 || !sample.SameClasses(l, sample.Guild(seed)) {
			t.Errorf("not the guild %d, or another one when asked for again", seed)
		}
		for i, c := range l {
			hears := make([]int, 6)
			for _, h := range c.Hooks {
				hears[h.Kind]++
			}
			for what, so := range map[string]bool{
				"others": !sample.SameClass(c, sample.Guild(seed + 1)[i]), "for forms": c.Form, "hears nothing": len(c.Hooks) == 0, "hears twice": slices.Max(hears) > 1,
				"watches in vain": len(c.Watch) > 0 && hears[4] == 0, "watches": len(c.Watch) > 0 && hears[4] > 0, "watches nothing": len(c.Watch) == 0 && hears[4] > 0,
			} {
				if so {
					found[what]++
				}
			}
		}
	}
	if len(found) != 7 || found["others"] < 500 {
		t.Errorf("not the classes that were meant: %v", found)
	}
	for what, times := range found {
		if times < 40 {
			t.Errorf("seldom there: %s", what)
		}
	}
}

// Crews are the same for each seed, and others for others; most of their classes are for forms, some hear of a kind
// twice, or of nothing, all of no other kinds than those that are told to elements of forms.
func TestCrews(t *testing.T) {
	found := map[string]int{}
	for seed := range 100 {
		l := sample.Crew(seed)
		if len(l) < 3 || len(l) > 4 || !sample.SameClasses(l, sample.Crew(seed)) {
			t.Errorf("not the crew %d, or another one when asked for again", seed)
		}
		for _, c := range l {
			hears := make([]int, 9)
			for _, h := range c.Hooks {
				hears[h.Kind]++
			}
			for what, so := range map[string]bool{
				"for forms": c.Form, "not for forms": !c.Form, "hears nothing": len(c.Hooks) == 0, "hears twice": slices.Max(hears) > 1,
				"5": hears[5] > 0, "6": hears[6] > 0, "7": hears[7] > 0, "8": hears[8] > 0, "four": len(l) == 4, "three": len(l) == 3,
			} {
				if so {
					found[what]++
				}
			}
			if slices.Max(hears[:5]) > 0 {
				t.Errorf("%d: hears of others: %v", seed, c.Hooks)
			}
		}
	}
	if len(found) != 10 || found["for forms"] < 2*found["not for forms"] {
		t.Errorf("not the classes that were meant: %v", found)
	}
	for what, times := range found {
		if times < 30 {
			t.Errorf("seldom there: %s", what)
		}
	}
}

// heldClassChanges are ways to change classes, in what their lists have.
func heldClassChanges() []func(l []api.Class) {
	return []func(l []api.Class){
		func(l []api.Class) { l[0].Form = true },
		func(l []api.Class) { l[0].Watch[2] = "c" },
		func(l []api.Class) { l[1].Watch = nil },
		func(l []api.Class) { l[1].Peek[1].Kind = 77 },
		func(l []api.Class) { l[1].Make[0].S = "" },
		func(l []api.Class) { l[1].Make = l[1].Make[:1] },
		func(l []api.Class) { l[0].Hooks[1].Kind = 77 },
		func(l []api.Class) { l[0].Hooks[2].Do[1].Must = false },
		func(l []api.Class) { l[0].Hooks[0].Do = l[0].Hooks[0].Do[:2] },
		func(l []api.Class) { l[2].Hooks = l[2].Hooks[:7] },
		func(l []api.Class) { l[3], l[4] = l[4], l[3] },
	}
}

// roomClassChanges are ways to change classes in their spare room.
func roomClassChanges() []func(l []api.Class) {
	return []func(l []api.Class){
		func(l []api.Class) { _ = append(l, api.Class{Form: true}) },
		func(l []api.Class) { _ = append(l[4].Watch, "mine") },
		func(l []api.Class) { _ = append(l[1].Peek, api.Op{}) },
		func(l []api.Class) { _ = append(l[0].Make, api.Op{}) },
		func(l []api.Class) { _ = append(l[2].Hooks, api.Hook{Kind: 1}) },
		func(l []api.Class) { _ = append(l[2].Hooks[3].Do, api.Op{}) },
	}
}

// Classes are the same just where all is, and a copy is the same, but not the same memory.
func TestSameClasses(t *testing.T) {
	for i, change := range heldClassChanges() {
		l := sample.Classes()
		m := sample.CopyClasses(l)
		if !sample.SameClasses(l, m) || cap(m) != 5 || cap(m[0].Watch) != 3 || cap(m[1].Peek) != 2 || cap(m[0].Hooks) != 3 || cap(m[0].Hooks[0].Do) != 3 {
			t.Errorf("not a copy: %v", m)
		}
		change(m)
		if sample.SameClasses(l, m) || !sample.SameClasses(l, sample.Classes()) {
			t.Errorf("the change %d isn't seen, or is one of both", i)
		}
	}
	if sample.SameClasses(sample.Classes(), sample.Classes()[:4]) {
		t.Error("a class less isn't seen")
	}
}

// Who asks is told what the call answers, and how it isn't careful, if it isn't.
func TestAskClasses(t *testing.T) {
	const shares, changes = "lists of the answer share memory", "what was handed in is changed, or shared"
	for i, c := range []struct {
		fault string
		call  func(l, m []api.Class) ([]api.Class, []api.Op)
	}{
		{"", func(l, m []api.Class) ([]api.Class, []api.Op) { return nil, nil }},
		{"", func(l, m []api.Class) ([]api.Class, []api.Op) { return m, sample.Ops(1, 2) }},
		{"", func(l, m []api.Class) ([]api.Class, []api.Op) { return m[1:3], m[0].Hooks[0].Do }},
		{shares, func(l, m []api.Class) ([]api.Class, []api.Op) { return m, m[0].Hooks[2].Do }},
		{shares, func(l, m []api.Class) ([]api.Class, []api.Op) { return m, m[1].Make[1:] }},
		{shares, func(l, m []api.Class) ([]api.Class, []api.Op) { m[1].Peek = m[1].Make[:0]; return m, nil }},
		{shares, func(l, m []api.Class) ([]api.Class, []api.Op) { m[3].Watch = m[0].Watch[1:2]; return m, nil }},
		{shares, func(l, m []api.Class) ([]api.Class, []api.Op) { m[3].Hooks = m[2].Hooks[1:]; return m, nil }},
		{changes, func(l, m []api.Class) ([]api.Class, []api.Op) { return l, nil }},
		{changes, func(l, m []api.Class) ([]api.Class, []api.Op) { return l[:0], nil }},
		{changes, func(l, m []api.Class) ([]api.Class, []api.Op) { return nil, l[0].Hooks[1].Do }},
		{changes, func(l, m []api.Class) ([]api.Class, []api.Op) { return nil, l[2].Hooks[1].Do }},
		{changes, func(l, m []api.Class) ([]api.Class, []api.Op) { m[0].Watch = l[4].Watch; return m, nil }},
		{changes, func(l, m []api.Class) ([]api.Class, []api.Op) { m[0].Hooks = l[0].Hooks; return m, nil }},
		{changes, func(l, m []api.Class) ([]api.Class, []api.Op) { m[3].Make = l[3].Make[:0]; return m, nil }},
		{changes, func(l, m []api.Class) ([]api.Class, []api.Op) { m[1].Peek = l[1].Peek[2:]; return m, nil }},
	} {
		var want []api.Class
		var beside []api.Op
		got, program, fault := sample.AskClasses(sample.Classes(), func(l []api.Class) ([]api.Class, []api.Op) {
			m, ops := c.call(l, sample.CopyClasses(l))
			want, beside = sample.CopyClasses(m), slices.Clone(ops)
			return m, ops
		})
		if fault != c.fault || !sample.SameClasses(got, want) || !slices.Equal(program, beside) {
			t.Errorf("%d: told %q, and answered %v, %v", i, fault, got, program)
		}
	}
	for i, change := range append(heldClassChanges(), roomClassChanges()...) {
		if _, _, fault := sample.AskClasses(sample.Classes(), func(l []api.Class) ([]api.Class, []api.Op) { change(l); return nil, nil }); fault == "" {
			t.Errorf("the change %d isn't seen", i)
		}
	}
}
