package line_test

import (
	"slices"
	"testing"

	"instar/api"
	"instar/line"
	"instar/sample"
)

// P11.1: which lines are right, at the edges.
func TestRight(t *testing.T) {
	for what, l := range sample.RightLines() {
		if !line.Right(l) {
			t.Errorf("%s isn't right", what)
		}
	}
	for what, l := range sample.WrongLines() {
		if line.Right(l) {
			t.Errorf("%s is right", what)
		}
	}
	for _, n := range numbers() {
		for nodes := range 8 {
			todos, so := make([][]api.Todo, nodes), 0 <= n && n < nodes
			for _, l := range []api.Line{
				{Todos: todos, Back: []int{n}}, {Todos: todos, Stack: [][]int{{n}}, Busy: true}, {Todos: todos, Stack: [][]int{nil, {n}}},
				{Todos: todos, Stack: [][]int{{n}, nil}}, {Todos: todos, Stack: [][]int{{n, n}}, Back: []int{n, n}},
			} {
				if line.Right(l) != so {
					t.Errorf("%v is right: %v", l, !so)
				}
			}
		}
	}
}

// P11.1: a line is idle just where there is nothing at all, but for nodes.
func TestIdle(t *testing.T) {
	for nodes := range 5 {
		l := api.Line{Todos: make([][]api.Todo, nodes), Stack: [][]int{}, Back: []int{}}
		if !line.Idle(l) {
			t.Errorf("%d nodes aren't idle", nodes)
		}
		for n := range nodes {
			m := sample.CopyLine(l)
			if m.Todos[n] = []api.Todo{{}}; line.Idle(m) {
				t.Errorf("something is to be done to %d of %d, and nobody sees it", n, nodes)
			}
		}
	}
	two := [][]api.Todo{nil, {}}
	for what, l := range map[string]api.Line{
		"busy": {Todos: two, Busy: true}, "an empty list": {Todos: two, Stack: [][]int{{}}}, "no list": {Todos: two, Stack: [][]int{nil}}, "a list": {Todos: two, Stack: [][]int{{1}}},
		"Back": {Todos: two, Back: []int{1}}, "a wrong list": {Todos: two, Stack: [][]int{{2}}}, "a wrong Back": {Todos: two, Back: []int{-1}}, "no node": {Back: []int{0}},
	} {
		if line.Idle(l) {
			t.Errorf("%s: idle", what)
		}
	}
}

// P11.1: a node more has no todo, and an empty list more is the current one; of a wrong line, too.
func TestGrowAndOpen(t *testing.T) {
	l := line.Grow(sample.Line())
	if len(l.Todos) != 7 || len(l.Todos[6]) != 0 || !slices.Equal(l.Todos[4], sample.Line().Todos[4]) || len(l.Stack) != 3 || len(l.Back) != 3 || !l.Busy {
		t.Errorf("grown to %v", l)
	}
	if l = line.Grow(api.Line{Back: []int{0}}); !line.Right(l) || len(l.Todos) != 1 || !slices.Equal(l.Back, []int{0}) {
		t.Errorf("what isn't right has grown to %v", l)
	}
	l = line.Open(sample.Line())
	if len(l.Stack) != 4 || len(l.Stack[3]) != 0 || !slices.Equal(l.Stack[2], []int{0, 3, 0}) || len(l.Todos) != 6 || len(l.Back) != 3 || !l.Busy {
		t.Errorf("opened: %v", l)
	}
	if l = line.Open(api.Line{Back: []int{0}}); line.Right(l) || len(l.Stack) != 1 || len(l.Stack[0]) != 0 || len(l.Back) != 1 {
		t.Errorf("opened, and not right: %v", l)
	}
}

// P11.2: n stands behind the current list alone, however often it is there already, and nobody is told.
func TestAddToList(t *testing.T) {
	x := sample.Todos()[6]
	for _, busy := range []bool{true, false} {
		l := sample.Line()
		l.Busy = busy
		for _, n := range []int{0, 5} {
			m, tell, err := line.Add(l, n, x)
			want := sample.CopyLine(l)
			want.Todos[n], want.Stack[2] = []api.Todo{x}, []int{0, 3, 0, n}
			if tell || err != api.OK || !sample.SameLine(m, want) {
				t.Errorf("added %d: %v, %d, %v", n, tell, err, m)
			}
		}
	}
	l := api.Line{Todos: [][]api.Todo{nil}, Stack: [][]int{{0}, nil}}
	l, _, _ = line.Add(l, 0, api.Todo{})
	l, tell, err := line.Add(l, 0, x)
	want := api.Line{Todos: [][]api.Todo{{{}, x}}, Stack: [][]int{{0}, {0, 0}}}
	if tell || err != api.OK || !sample.SameLine(l, want) {
		t.Errorf("added 0 twice: %v, %d, %v", tell, err, l)
	}
}

// P11.2: where there is no list, n stands behind Back, and somebody is told, once, till nobody is any more.
func TestAddToBack(t *testing.T) {
	l := sample.Line()
	l.Stack, l.Busy = nil, false
	for i, tells := range []bool{true, false, false} {
		n := 3 - i
		m, tell, err := line.Add(l, n, api.Todo{Kind: 77, From: i})
		want := sample.CopyLine(l)
		want.Todos[n], want.Back, want.Busy = append(want.Todos[n], api.Todo{Kind: 77, From: i}), append(want.Back, n), true
		if tell != tells || err != api.OK || !sample.SameLine(m, want) {
			t.Errorf("added %d: %v, %d, %v", n, tell, err, m)
		}
		l = m
	}
	for range len(l.Back) {
		l, _, _ = line.Pull(l)
		if m, tell, _ := line.Add(l, 0, api.Todo{}); tell || !m.Busy {
			t.Errorf("told anew, though somebody is at it: %v", m)
		}
	}
	l, _, _ = line.Pull(l)
	if m, tell, _ := line.Add(l, 0, api.Todo{}); !tell || !m.Busy || !slices.Equal(m.Back, []int{0}) {
		t.Errorf("nobody is told: %v", m)
	}
	m := line.Open(l)
	if m, tell, _ := line.Add(m, 0, api.Todo{}); tell || m.Busy || len(m.Back) != 0 {
		t.Errorf("told of what stands in a list: %v", m)
	}
}

// P11.3: the lists are shut one by one, the last one first, empty ones, too; then there is none.
func TestShut(t *testing.T) {
	l := sample.Line()
	for at := 2; at >= 0; at-- {
		m, list, err := line.Shut(l)
		want := sample.CopyLine(l)
		want.Stack = want.Stack[:at]
		if err != api.OK || !slices.Equal(list, sample.Line().Stack[at]) || !sample.SameLine(m, want) {
			t.Errorf("shut the list %d: %v, %d, %v", at, list, err, m)
		}
		l = m
	}
	if m, list, err := line.Shut(l); err != api.ErrState || len(list) != 0 || !sample.SameLine(m, l) {
		t.Errorf("shut no list: %v, %d, %v", list, err, m)
	}
	l.Back[0] = 6
	if m, list, err := line.Shut(l); err != api.ErrArg || len(list) != 0 || !sample.SameLine(m, l) {
		t.Errorf("shut no list of what isn't right: %v, %d, %v", list, err, m)
	}
}

// P11.4: n's todos are taken one by one, the first one first, wherever n stands; then there is none.
func TestTake(t *testing.T) {
	l := sample.Line()
	for _, n := range []int{1, 4, 3} {
		for _, want := range sample.Line().Todos[n] {
			m, x, ok := line.Take(l, n)
			left := sample.CopyLine(l)
			left.Todos[n] = left.Todos[n][1:]
			if !ok || x != want || !sample.SameLine(m, left) {
				t.Errorf("took from %d: %v, %v, %v", n, x, ok, m)
			}
			l = m
		}
	}
	for n := -1; n < 7; n++ {
		if m, x, ok := line.Take(l, n); ok || x != (api.Todo{}) || !sample.SameLine(m, l) {
			t.Errorf("took from %d, which has none: %v, %v, %v", n, x, ok, m)
		}
	}
}

// P11.4: n's todos go, those of others stay, and so does n where it stands.
func TestDrop(t *testing.T) {
	for n := -1; n < 7; n++ {
		l, want, is := sample.Line(), sample.Line(), 0 <= n && n < 6
		if is {
			want.Todos[n] = nil
		}
		m, err := line.Drop(l, n)
		if !sample.SameLine(m, want) || is != (err == api.OK) || !is != (err == api.ErrArg) {
			t.Errorf("dropped %d: %d, %v", n, err, m)
		}
	}
}

// P11.5: who waits is pulled one by one, the first one first, and lists stay; then nobody is told any more.
func TestPull(t *testing.T) {
	for _, busy := range []bool{true, false} {
		l := sample.Line()
		l.Busy = busy
		for _, want := range []int{4, 1, 4} {
			m, n, ok := line.Pull(l)
			left := sample.CopyLine(l)
			left.Back = left.Back[1:]
			if !ok || n != want || !sample.SameLine(m, left) {
				t.Errorf("pulled %d, %v: %v", n, ok, m)
			}
			l = m
		}
		for range 2 {
			m, n, ok := line.Pull(l)
			left := sample.CopyLine(l)
			left.Busy = false
			if ok || n != api.None || !sample.SameLine(m, left) {
				t.Errorf("pulled nobody: %d, %v, %v", n, ok, m)
			}
			l = m
		}
	}
}

// P11.2 to P11.5: what isn't right stays as it is, and nothing is told of it.
func TestWrong(t *testing.T) {
	for what, l := range sample.WrongLines() {
		for n := -1; n < 7; n++ {
			if m, tell, err := line.Add(l, n, sample.Todos()[0]); tell || err != api.ErrArg || !sample.SameLine(m, l) {
				t.Errorf("%s: added %d: %v, %d, %v", what, n, tell, err, m)
			}
			if m, x, ok := line.Take(l, n); ok || x != (api.Todo{}) || !sample.SameLine(m, l) {
				t.Errorf("%s: took from %d: %v, %v, %v", what, n, x, ok, m)
			}
			if m, err := line.Drop(l, n); err != api.ErrArg || !sample.SameLine(m, l) {
				t.Errorf("%s: dropped %d: %d, %v", what, n, err, m)
			}
		}
		if m, list, err := line.Shut(l); err != api.ErrArg || len(list) != 0 || !sample.SameLine(m, l) {
			t.Errorf("%s: shut: %v, %d, %v", what, list, err, m)
		}
		if m, n, ok := line.Pull(l); ok || n != api.None || !sample.SameLine(m, l) {
			t.Errorf("%s: pulled: %d, %v, %v", what, n, ok, m)
		}
	}
}

// The chapter's example.
func TestExample(t *testing.T) {
	l := api.Line{Todos: make([][]api.Todo, 5)}
	add := func(n int) {
		l, _, _ = line.Add(l, n, api.Todo{Kind: api.Came})
	}
	l = line.Open(l)
	add(3)
	l = line.Open(l)
	add(4)
	add(3)
	for _, want := range [][]int{{4, 3}, {3}} {
		m, list, err := line.Shut(l)
		if err != api.OK || !slices.Equal(list, want) {
			t.Errorf("shut: %v, %d, not %v", list, err, want)
		}
		l = m
	}
}
