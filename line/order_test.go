package line_test

import (
	"slices"
	"testing"

	"instar/api"
	"instar/line"
	"instar/sample"
)

// day is what befalls a line, and what must be told of it: for each node the numbers of its todos that are
// left, in the order in which they came; whom each list got; who waits, and whether somebody was told of it.
type day struct {
	l     api.Line
	left  [][]int
	lists [][]int
	back  []int
	told  bool
	came  int
}

// add adds a todo, which has a number of its own.
func (x *day) add(t *testing.T, n int) {
	l, tell, err := line.Add(x.l, n, api.Todo{Kind: api.Moved, To: x.came})
	if tells := len(x.lists) == 0 && !x.told; err != api.OK || tell != tells {
		t.Errorf("added %d: told %v, %d", n, tell, err)
	}
	x.left[n] = append(x.left[n], x.came)
	if top := len(x.lists) - 1; top >= 0 {
		x.lists[top] = append(x.lists[top], n)
	} else {
		x.back, x.told = append(x.back, n), true
	}
	x.l, x.came = l, x.came+1
}

// take takes n's first todo, which must be the one that came first of those that are left.
func (x *day) take(t *testing.T, n int) {
	l, todo, ok := line.Take(x.l, n)
	x.l = l
	if len(x.left[n]) == 0 {
		if ok {
			t.Errorf("took %v from %d, which has none", todo, n)
		}
		return
	}
	if first := x.left[n][0]; !ok || todo != (api.Todo{Kind: api.Moved, To: first}) {
		t.Errorf("took %v, %v from %d, not the number %d", todo, ok, n, first)
	}
	x.left[n] = x.left[n][1:]
}

// shut shuts the current list, which must have whom it got.
func (x *day) shut(t *testing.T) {
	l, list, err := line.Shut(x.l)
	x.l = l
	if top := len(x.lists) - 1; top < 0 {
		if err != api.ErrState {
			t.Errorf("shut no list: %v, %d", list, err)
		}
	} else {
		if err != api.OK || !slices.Equal(list, x.lists[top]) {
			t.Errorf("shut %v, %d, not %v", list, err, x.lists[top])
		}
		x.lists = x.lists[:top]
	}
}

// pull pulls who waits, who must be the one who came first.
func (x *day) pull(t *testing.T) {
	l, n, ok := line.Pull(x.l)
	x.l = l
	if len(x.back) == 0 {
		if ok || n != api.None {
			t.Errorf("pulled %d, %v, where nobody waits", n, ok)
		}
		x.told = false
		return
	}
	if !ok || n != x.back[0] {
		t.Errorf("pulled %d, %v, not %d", n, ok, x.back[0])
	}
	x.back = x.back[1:]
}

// step does what the number says, to that node.
func (x *day) step(t *testing.T, what, n int) {
	switch what {
	case 0, 1, 2, 3, 4:
		x.add(t, n)
	case 5, 6, 7:
		x.take(t, n)
	case 8:
		x.l, x.lists = line.Open(x.l), append(x.lists, nil)
	case 9, 10:
		x.shut(t)
	case 11, 12, 13:
		x.pull(t)
	case 14:
		x.l, x.left = line.Grow(x.l), append(x.left, nil)
	case 15:
		l, err := line.Drop(x.l, n)
		if err != api.OK {
			t.Errorf("dropped %d: %d", n, err)
		}
		x.l, x.left[n] = l, nil
	}
}

// line answers the line that there must be by now.
func (x *day) line() api.Line {
	l := api.Line{Stack: x.lists, Back: x.back, Busy: x.told}
	for _, left := range x.left {
		var todos []api.Todo
		for _, number := range left {
			todos = append(todos, api.Todo{Kind: api.Moved, To: number})
		}
		l.Todos = append(l.Todos, todos)
	}
	return l
}

// P11.6: whatever befalls a line, a node's todos are taken in the order in which they came, and a list has whom
// it got, in that order, while it was the current one. In the end all is taken, shut and pulled, and it is idle.
func TestOrder(t *testing.T) {
	for seed := range 60 {
		var x day
		x.step(t, 14, 0)
		chance := uint32(seed)
		for range 300 {
			chance = chance*1664525 + 1013904223
			x.step(t, int(chance>>10)%16, int(chance>>20)%len(x.left))
			idle := len(slices.Concat(x.left...)) == 0 && len(x.lists) == 0 && len(x.back) == 0 && !x.told
			if !sample.SameLine(x.l, x.line()) || !line.Right(x.l) || line.Idle(x.l) != idle {
				t.Fatalf("the day %d came to %v, not to %v", seed, x.l, x.line())
			}
		}
		if x.came < 50 || len(x.left) < 5 {
			t.Errorf("the day %d wasn't a day: %d came, to %d", seed, x.came, len(x.left))
		}
		for n := range x.left {
			for len(x.left[n]) > 0 {
				x.take(t, n)
			}
		}
		for len(x.lists) > 0 {
			x.shut(t)
		}
		for range len(x.back) + 1 {
			x.pull(t)
		}
		if !line.Idle(x.l) {
			t.Errorf("the day %d never ends: %v", seed, x.l)
		}
	}
}
