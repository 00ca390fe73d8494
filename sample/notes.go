package sample

import "instar/api"

// Came answers what is told when these elements come, in this order.
func Came(elems ...int) []api.Note { return notes(api.Note{Kind: api.Came}, elems) }

// Went answers what is told when they go.
func Went(elems ...int) []api.Note { return notes(api.Note{Kind: api.Went}, elems) }

// Moved answers what is told when they go to another document.
func Moved(from, to int, elems ...int) []api.Note {
	return notes(api.Note{Kind: api.Moved, From: from, To: to}, elems)
}

// notes answers the note of each of these elements.
func notes(note api.Note, elems []int) []api.Note {
	var l []api.Note
	for _, n := range elems {
		note.Node = n
		l = append(l, note)
	}
	return l
}
