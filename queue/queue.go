// Package queue adds to lines what is to be done. It asks nothing of a line, and changes it where it stands: whoever
// calls it has the line to itself, and knows that it is right and has the node.
package queue

import "instar/api"

// Add puts t behind all else that is to be done to n, and tells whether somebody is to be told of it.
func Add(l *api.Line, n int, t api.Todo) bool {
	l.Todos[n] = append(l.Todos[n], t)
	if current := len(l.Stack) - 1; current >= 0 {
		l.Stack[current] = append(l.Stack[current], n)
		return false
	}
	tell := !l.Busy
	l.Back, l.Busy = append(l.Back, n), true
	return tell
}
