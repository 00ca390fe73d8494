package queue_test

import (
	"testing"

	"instar/api"
	"instar/line"
	"instar/queue"
	"instar/sample"
)

// It comes to what layer 11 answers, which asks ahead whether it may be; layer 11's tests ask for more of that.
func TestAdd(t *testing.T) {
	tells := 0
	for seed := range 200 {
		l := sample.Rank(seed)
		for i, x := range sample.Todos() {
			n := i % len(l.Todos)
			want, tell, err := line.Add(l, n, x)
			got := queue.Add(&l, n, x)
			if err != api.OK || got != tell || !sample.SameLine(l, want) {
				t.Errorf("%d: %v is added to %d: told %v, and came to %v, not to %v", seed, x, n, got, l, want)
			}
			if got {
				tells++
			}
		}
	}
	if tells < 10 {
		t.Errorf("only %d are told", tells)
	}
}

// Who waits behind the current list isn't told of; who waits by itself is, while it isn't Busy.
func TestTells(t *testing.T) {
	l := api.Line{Todos: make([][]api.Todo, 3)}
	for i, want := range []bool{true, false, false} {
		if queue.Add(&l, i, api.Todo{Kind: api.Came}) != want || !l.Busy || len(l.Back) != i+1 || l.Back[i] != i || len(l.Todos[i]) != 1 {
			t.Errorf("%d waits: %v", i, l)
		}
	}
	l.Stack, l.Busy = [][]int{{2}, nil}, false
	if queue.Add(&l, 1, api.Todo{Kind: api.Went}) || l.Busy || len(l.Back) != 3 || len(l.Stack[0]) != 1 || len(l.Stack[1]) != 1 || l.Todos[1][1].Kind != api.Went {
		t.Errorf("behind a list: %v", l)
	}
}
