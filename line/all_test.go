package line_test

import (
	"fmt"
	"slices"
	"strconv"
	"testing"

	"instar/api"
	"instar/line"
	"instar/sample"
)

// numbers are those about the edges, and far from them.
func numbers() []int {
	return []int{0, 1, 2, 3, 4, 5, 6, 7, 400, sample.Greatest, -1, -2, -3, -4, sample.Least}
}

// lines are right ones and wrong ones, and ranks.
func lines() map[string]api.Line {
	all := sample.RightLines()
	for what, l := range sample.WrongLines() {
		all[what] = l
	}
	for seed := range 200 {
		all["rank "+strconv.Itoa(seed)] = sample.Rank(seed)
	}
	return all
}

// short tells of these as much as can be read.
func short(l api.Line, list []int) string {
	s := fmt.Sprint(l, list)
	return s[:min(len(s), 500)]
}

// check checks what a call tells of l, and that it neither changes l nor shares memory with it.
func check(t *testing.T, what string, l api.Line, want told, call func(l api.Line) told) {
	t.Helper()
	var got told
	m, list, fault := sample.AskLine(l, func(l api.Line) (api.Line, []int) {
		got = call(l)
		return got.l, got.list
	})
	if !sample.SameLine(m, want.l) || !slices.Equal(list, want.list) {
		t.Errorf("%s: came to %s, not to %s", what, short(m, list), short(want.l, want.list))
	}
	if got.todo != want.todo || got.n != want.n || got.yes != want.yes || got.err != want.err {
		t.Errorf("%s: told %v, %d, %v, %d, not %v, %d, %v, %d", what, got.todo, got.n, got.yes, got.err, want.todo, want.n, want.yes, want.err)
	}
	if fault != "" {
		t.Errorf("%s: %s", what, fault)
	}
	if line.Right(l) && !line.Right(m) {
		t.Errorf("%s: came to what isn't right", what)
	}
}

// checkNode checks all calls that are asked of a node.
func checkNode(t *testing.T, what string, l api.Line, n int, x api.Todo) {
	t.Helper()
	what += ", of " + strconv.Itoa(n)
	check(t, what+": Add", l, addByWords(l, n, x), func(l api.Line) told {
		m, tell, err := line.Add(l, n, x)
		return told{l: m, yes: tell, err: err}
	})
	check(t, what+": Take", l, takeByWords(l, n), func(l api.Line) told {
		m, x, ok := line.Take(l, n)
		return told{l: m, todo: x, yes: ok}
	})
	check(t, what+": Drop", l, dropByWords(l, n), func(l api.Line) told {
		m, err := line.Drop(l, n)
		return told{l: m, err: err}
	})
}

// checkLine checks all other calls.
func checkLine(t *testing.T, what string, l api.Line) {
	t.Helper()
	if _, _, fault := sample.AskLine(l, func(l api.Line) (api.Line, []int) {
		if line.Right(l) != rightByWords(l) || line.Idle(l) != idleByWords(l) {
			t.Errorf("%s: Right = %v, Idle = %v", what, line.Right(l), line.Idle(l))
		}
		return api.Line{}, nil
	}); fault != "" {
		t.Errorf("%s: Right, Idle: %s", what, fault)
	}
	check(t, what+": Grow", l, growByWords(l), func(l api.Line) told { return told{l: line.Grow(l)} })
	check(t, what+": Open", l, openByWords(l), func(l api.Line) told { return told{l: line.Open(l)} })
	check(t, what+": Shut", l, shutByWords(l), func(l api.Line) told {
		m, list, err := line.Shut(l)
		return told{l: m, list: list, err: err}
	})
	check(t, what+": Pull", l, pullByWords(l), func(l api.Line) told {
		m, n, ok := line.Pull(l)
		return told{l: m, n: n, yes: ok}
	})
}

// P11.1 to P11.5: all kinds of lines against the chapter's words; whatever the todo, Kind and Def and all.
func TestWords(t *testing.T) {
	todos := append(sample.Todos(), api.Todo{}, api.Todo{Kind: -1, Def: sample.Least, Name: "\xff", To: sample.Greatest})
	asked := 0
	for what, l := range lines() {
		checkLine(t, what, l)
		for _, n := range numbers() {
			asked++
			checkNode(t, what, l, n, todos[asked%len(todos)])
		}
	}
}

// P11.1 to P11.5: lists of a line that share memory with each other are not changed together.
func TestShared(t *testing.T) {
	x, who := sample.Todos(), []int{1, 0, 1}
	for at, stack := range [][][]int{{who[:1], who, who[1:2]}, nil} {
		l := api.Line{Todos: [][]api.Todo{x[:3], x[1:3], x}, Stack: stack, Back: who[:2]}
		added, _, _ := line.Add(l, 0, api.Todo{Kind: 77})
		shut, list, _ := line.Shut(l)
		taken, _, _ := line.Take(l, 2)
		dropped, _ := line.Drop(l, 1)
		pulled, _, _ := line.Pull(l)
		for i, c := range []struct{ got, want api.Line }{
			{added, addByWords(l, 0, api.Todo{Kind: 77}).l}, {shut, shutByWords(l).l}, {taken, takeByWords(l, 2).l},
			{dropped, dropByWords(l, 1).l}, {pulled, pullByWords(l).l}, {line.Grow(l), growByWords(l).l}, {line.Open(l), openByWords(l).l},
		} {
			if !sample.SameLine(c.got, c.want) {
				t.Errorf("%d, %d: %v, not %v", at, i, c.got, c.want)
			}
		}
		for i := range list {
			list[i] = 77
		}
		if !slices.Equal(x, sample.Todos()) || !slices.Equal(who, []int{1, 0, 1}) {
			t.Errorf("changed what was handed in: %v, %v", x, who)
		}
	}
}

// P11.1 to P11.5: as many nodes as may be, and many todos.
func TestMany(t *testing.T) {
	for _, listed := range []bool{true, false} {
		l := sample.Queue(api.MaxNodes, 50000, listed)
		checkLine(t, "many", l)
		for _, n := range []int{0, 1, 399, 400, -1} {
			checkNode(t, "many", l, n, api.Todo{Kind: api.Went})
		}
		l.Stack, l.Back = slices.Concat([][]int{{400}}, l.Stack), append(l.Back, 400)
		checkLine(t, "many, one of them wrong", l)
	}
}
