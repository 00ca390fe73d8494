package sample_test

import (
	"slices"
	"testing"

	"instar/api"
	"instar/line"
	"instar/sample"
)

// What is told to be right is so, what is told to be wrong isn't, and both come anew with each call.
func TestLines(t *testing.T) {
	spoil := func(l api.Line) {
		for _, list := range append(slices.Clone(l.Stack), l.Back) {
			for i := range list {
				list[i] = -list[i] - 1
			}
		}
		clear(l.Todos)
	}
	for range 2 {
		for what, l := range sample.RightLines() {
			if !line.Right(l) {
				t.Errorf("%s isn't right, or not any more", what)
			}
			spoil(l)
		}
		for what, l := range sample.WrongLines() {
			if line.Right(l) {
				t.Errorf("%s is right", what)
			}
			spoil(l)
		}
	}
}

// Todos are one of each kind; a queue has as many as were asked for, of nodes in turn, in the list that was
// asked for.
func TestQueue(t *testing.T) {
	for at, x := range sample.Todos() {
		if x.Kind != at+1 || x.Name == "" || x.Old == "" || x.New == "" || x.Def*x.From*x.To == 0 || !x.Had || !x.Has || !x.On {
			t.Errorf("not the todo that was meant: %v", x)
		}
	}
	if len(sample.Todos()) != 9 {
		t.Error("not one todo of each kind")
	}
	who := []int{0, 1, 2, 0, 1, 2, 0}
	for _, listed := range []bool{true, false} {
		l := sample.Queue(3, 7, listed)
		if !line.Right(l) || len(l.Todos) != 3 || len(l.Todos[0]) != 3 || len(l.Todos[2]) != 2 || l.Todos[1][1].From != 4 || l.Busy == listed {
			t.Errorf("not the line that was meant: %v", l)
		}
		if listed && (len(l.Stack) != 2 || !slices.Equal(l.Stack[0], []int{2}) || !slices.Equal(l.Stack[1], who) || l.Back != nil) {
			t.Errorf("not the lists that were meant: %v", l)
		}
		if !listed && (!slices.Equal(l.Back, who) || l.Stack != nil) {
			t.Errorf("not who was meant to wait: %v", l)
		}
	}
}

// Ranks are right, the same for each seed, and others for others; some have no list, an empty current one, or
// nobody in Back, and some are busy.
func TestRanks(t *testing.T) {
	found := map[string]int{}
	for seed := range 300 {
		l, last := sample.Rank(seed), 0
		if !line.Right(l) || !sample.SameLine(l, sample.Rank(seed)) {
			t.Errorf("the rank %d isn't right, or another one when asked for again", seed)
		}
		if len(l.Stack) > 0 {
			last = len(l.Stack[len(l.Stack)-1])
		}
		for what, so := range map[string]bool{
			"no list": len(l.Stack) == 0, "an empty list": len(l.Stack) > 0 && last == 0, "some in a list": last > 0,
			"nobody waits": len(l.Back) == 0, "somebody waits": len(l.Back) > 0, "busy": l.Busy, "not busy": !l.Busy,
			"others": !sample.SameLine(l, sample.Rank(seed+1)), "no todo": len(l.Todos[0]) == 0, "todos": len(l.Todos[0]) > 1,
		} {
			if so {
				found[what]++
			}
		}
	}
	if len(found) != 10 || found["others"] < 250 {
		t.Errorf("not the lines that were meant: %v", found)
	}
	for what, times := range found {
		if times < 30 {
			t.Errorf("seldom there: %s", what)
		}
	}
}

// roomChanges are ways to change a line's spare room, or how long its lists are where only who holds them sees.
func roomChanges() []func(l *api.Line) {
	return []func(l *api.Line){
		func(l *api.Line) { _ = append(l.Todos, nil) },
		func(l *api.Line) { _ = append(l.Todos[1], api.Todo{}) },
		func(l *api.Line) { _ = append(l.Todos[2], api.Todo{}) },
		func(l *api.Line) { _ = append(l.Stack, nil) },
		func(l *api.Line) { _ = append(l.Stack[0], 1) },
		func(l *api.Line) { _ = append(l.Stack[1], 1) },
		func(l *api.Line) { _ = append(l.Back, 1) },
		func(l *api.Line) { l.Todos[:7][6][0].Name = "mine" },
		func(l *api.Line) { l.Stack[:4][3][0] = 1 },
	}
}

// heldChanges are ways to change a line, in what its lists have.
func heldChanges() []func(l *api.Line) {
	return []func(l *api.Line){
		func(l *api.Line) { l.Todos[1][2].Kind = 7 },
		func(l *api.Line) { l.Todos[1][2].Def = 7 },
		func(l *api.Line) { l.Todos[3][0].Name = "b" },
		func(l *api.Line) { l.Todos[3][0].Had = false },
		func(l *api.Line) { l.Todos[3][0].Has = false },
		func(l *api.Line) { l.Todos[3][0].Old = "" },
		func(l *api.Line) { l.Todos[3][0].New = "" },
		func(l *api.Line) { l.Todos[3][0].From = 7 },
		func(l *api.Line) { l.Todos[3][0].To = 7 },
		func(l *api.Line) { l.Todos[4][1].On = true },
		func(l *api.Line) { l.Todos[4] = l.Todos[4][:1] },
		func(l *api.Line) { l.Todos[5] = []api.Todo{{}} },
		func(l *api.Line) { l.Stack[0][1] = 2 },
		func(l *api.Line) { l.Stack[2] = l.Stack[2][:2] },
		func(l *api.Line) { l.Stack[1], l.Stack[0] = l.Stack[0], l.Stack[1] },
		func(l *api.Line) { l.Back[1] = 2 },
	}
}

// Lines are the same just where all is, and a copy is the same, but not the same memory.
func TestSameLine(t *testing.T) {
	changes := append(heldChanges(),
		func(l *api.Line) { l.Todos = l.Todos[:5] },
		func(l *api.Line) { l.Stack = append(l.Stack, nil) },
		func(l *api.Line) { l.Back = l.Back[:2] },
		func(l *api.Line) { l.Busy = false })
	for i, change := range changes {
		l := sample.Line()
		m := sample.CopyLine(l)
		if !sample.SameLine(l, m) || cap(m.Todos) != 6 || cap(m.Stack) != 3 || cap(m.Back) != 3 || cap(m.Todos[1]) != 4 || cap(m.Stack[2]) != 3 {
			t.Errorf("not a copy: %v", m)
		}
		change(&m)
		if sample.SameLine(l, m) || !sample.SameLine(l, sample.Line()) {
			t.Errorf("the change %d isn't seen, or is one of both", i)
		}
	}
}

// Who asks is told what the call answers, and how it isn't careful, if it isn't.
func TestAskLine(t *testing.T) {
	const shares, changes = "lists of the answer share memory", "what was handed in is changed, or shared"
	for i, c := range []struct {
		fault string
		call  func(l, m api.Line) (api.Line, []int)
	}{
		{"", func(l, m api.Line) (api.Line, []int) { return m, nil }},
		{"", func(l, m api.Line) (api.Line, []int) { return m, []int{1} }},
		{"", func(l, m api.Line) (api.Line, []int) { list := m.Stack[2]; m.Stack[2] = nil; return m, list }},
		{shares, func(l, m api.Line) (api.Line, []int) { return m, m.Stack[2] }},
		{shares, func(l, m api.Line) (api.Line, []int) { return m, m.Stack[2][:0] }},
		{shares, func(l, m api.Line) (api.Line, []int) { list := m.Stack[2]; m.Stack = m.Stack[:2]; return m, list }},
		{shares, func(l, m api.Line) (api.Line, []int) { return m, m.Back[1:] }},
		{shares, func(l, m api.Line) (api.Line, []int) { m.Todos[3] = m.Todos[1][:0]; return m, nil }},
		{shares, func(l, m api.Line) (api.Line, []int) { m.Stack[1] = m.Back[:0]; return m, nil }},
		{changes, func(l, m api.Line) (api.Line, []int) { return l, nil }},
		{changes, func(l, m api.Line) (api.Line, []int) { return m, l.Stack[0] }},
		{changes, func(l, m api.Line) (api.Line, []int) { return m, l.Back[3:] }},
		{changes, func(l, m api.Line) (api.Line, []int) { m.Todos[1] = l.Todos[1][1:]; return m, nil }},
		{changes, func(l, m api.Line) (api.Line, []int) { m.Todos[2] = l.Todos[2]; return m, nil }},
		{changes, func(l, m api.Line) (api.Line, []int) { m.Todos = l.Todos[:0]; return m, nil }},
		{changes, func(l, m api.Line) (api.Line, []int) { m.Stack = l.Stack[:0]; return m, nil }},
		{changes, func(l, m api.Line) (api.Line, []int) { m.Stack = append(l.Stack, nil)[3:]; return m, nil }},
		{changes, func(l, m api.Line) (api.Line, []int) { m.Back = l.Back; return m, nil }},
	} {
		var want api.Line
		var beside []int
		m, list, fault := sample.AskLine(sample.Line(), func(l api.Line) (api.Line, []int) {
			m, list := c.call(l, sample.CopyLine(l))
			want, beside = sample.CopyLine(m), slices.Clone(list)
			return m, list
		})
		if fault != c.fault || !sample.SameLine(m, want) || !slices.Equal(list, beside) {
			t.Errorf("%d: told %q, and answered %v, %v", i, fault, m, list)
		}
	}
	for i, change := range append(heldChanges(), roomChanges()...) {
		if _, _, fault := sample.AskLine(sample.Line(), func(l api.Line) (api.Line, []int) { change(&l); return api.Line{}, nil }); fault == "" {
			t.Errorf("the change %d isn't seen", i)
		}
	}
}
