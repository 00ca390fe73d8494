package line_test

import (
	"slices"

	"instar/api"
)

// What the chapter says, in its words one by one, for the tests to hold the answers against.

func isNode(l api.Line, n int) bool { return n >= 0 && n < len(l.Todos) }

func rightByWords(l api.Line) bool {
	for _, n := range append(slices.Concat(l.Stack...), l.Back...) {
		if !isNode(l, n) {
			return false
		}
	}
	return true
}

func idleByWords(l api.Line) bool {
	todos := slices.Concat(l.Todos...)
	return rightByWords(l) && len(todos) == 0 && len(l.Stack) == 0 && len(l.Back) == 0 && !l.Busy
}

// told is what a call answers: of each what it has to tell, all else zero.
type told struct {
	l    api.Line
	list []int
	todo api.Todo
	n    int
	yes  bool
	err  api.Errno
}

func growByWords(l api.Line) told {
	l.Todos = slices.Concat(l.Todos, [][]api.Todo{{}})
	return told{l: l}
}

func openByWords(l api.Line) told {
	l.Stack = slices.Concat(l.Stack, [][]int{{}})
	return told{l: l}
}

// with answers all, but for the one at the place at, which is x.
func with[T any](all []T, at int, x T) []T {
	return slices.Concat(all[:at], []T{x}, all[at+1:])
}

func addByWords(l api.Line, n int, t api.Todo) told {
	if !rightByWords(l) || !isNode(l, n) {
		return told{l: l, err: api.ErrArg}
	}
	l.Todos = with(l.Todos, n, slices.Concat(l.Todos[n], []api.Todo{t}))
	if len(l.Stack) > 0 {
		last := len(l.Stack) - 1
		l.Stack = with(l.Stack, last, slices.Concat(l.Stack[last], []int{n}))
		return told{l: l}
	}
	l.Back = slices.Concat(l.Back, []int{n})
	if l.Busy {
		return told{l: l}
	}
	l.Busy = true
	return told{l: l, yes: true}
}

func shutByWords(l api.Line) told {
	switch {
	case !rightByWords(l):
		return told{l: l, err: api.ErrArg}
	case len(l.Stack) == 0:
		return told{l: l, err: api.ErrState}
	}
	last := len(l.Stack) - 1
	list := l.Stack[last]
	l.Stack = l.Stack[:last]
	return told{l: l, list: list}
}

func takeByWords(l api.Line, n int) told {
	if !rightByWords(l) || !isNode(l, n) || len(l.Todos[n]) == 0 {
		return told{l: l}
	}
	first := l.Todos[n][0]
	l.Todos = with(l.Todos, n, l.Todos[n][1:])
	return told{l: l, todo: first, yes: true}
}

func dropByWords(l api.Line, n int) told {
	if !rightByWords(l) || !isNode(l, n) {
		return told{l: l, err: api.ErrArg}
	}
	l.Todos = with(l.Todos, n, nil)
	return told{l: l}
}

func pullByWords(l api.Line) told {
	if !rightByWords(l) {
		return told{l: l, n: -1}
	}
	if len(l.Back) == 0 {
		l.Busy = false
		return told{l: l, n: -1}
	}
	first := l.Back[0]
	l.Back = l.Back[1:]
	return told{l: l, n: first, yes: true}
}
