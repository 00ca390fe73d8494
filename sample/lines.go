package sample

import (
	"slices"

	"instar/api"
)

// Todos answers a todo of each Kind, each with all of its fields filled.
func Todos() []api.Todo {
	var l []api.Todo
	for kind := api.Came; kind <= api.Upgrade; kind++ {
		l = append(l, api.Todo{
			Kind: kind, Def: kind + 10, Name: "a", Had: true, Has: true, Old: "o", New: "n", From: kind + 20, To: kind + 30, On: true,
		})
	}
	return l
}

// Line answers a line of six nodes with some of all: much is to be done to 1, something to 3 and 4; the lists
// are 3 and 1; none; 0, 3 and 0 once more; 4, 1 and 4 once more wait by themselves, and somebody was told.
func Line() api.Line {
	t := Todos()
	return api.Line{
		Todos: [][]api.Todo{nil, {t[3], t[8], t[3], t[0]}, {}, {t[1]}, {t[7], {}}, nil},
		Stack: [][]int{{3, 1}, {}, {0, 3, 0}},
		Back:  []int{4, 1, 4},
		Busy:  true,
	}
}

// Queue answers a line of so many nodes to which so much is to be done: they wait by themselves, or, if listed,
// in the current list, which stands on another one.
func Queue(nodes, todos int, listed bool) api.Line {
	var who []int
	l := api.Line{Todos: make([][]api.Todo, nodes), Busy: !listed}
	for i := range todos {
		l.Todos[i%nodes], who = append(l.Todos[i%nodes], api.Todo{Kind: api.Came, From: i}), append(who, i%nodes)
	}
	if listed {
		l.Stack = [][]int{{nodes - 1}, who}
	} else {
		l.Back = who
	}
	return l
}

// RightLines answers lines that are right, at the edges.
func RightLines() map[string]api.Line {
	t, calm := Todos(), Line()
	calm.Busy = false
	return map[string]api.Line{
		"nothing":                   {},
		"empty lists":               {Todos: [][]api.Todo{}, Stack: [][]int{}, Back: []int{}},
		"nothing, but busy":         {Busy: true},
		"no node, and an empty one": {Stack: [][]int{nil}},
		"no node, and empty ones":   {Stack: [][]int{{}, nil, {}}, Busy: true},
		"one node":                  {Todos: [][]api.Todo{nil}},
		"one node, and its todo":    {Todos: [][]api.Todo{{t[8]}}},
		"a todo that is all zero":   {Todos: [][]api.Todo{nil, {{}}, nil}},
		"one node in a list":        {Todos: [][]api.Todo{nil}, Stack: [][]int{{0}}},
		"one node in Back":          {Todos: [][]api.Todo{nil}, Back: []int{0}},
		"one node in Back, busy":    {Todos: [][]api.Todo{{t[8]}}, Back: []int{0}, Busy: true},
		"the last node everywhere":  {Todos: make([][]api.Todo, 5), Stack: [][]int{{4}, {4, 4}}, Back: []int{4, 4}},
		"nodes, nothing to be done": {Todos: [][]api.Todo{{}, nil, {}}},
		"nodes, and busy":           {Todos: [][]api.Todo{{}, nil, {}}, Busy: true},
		"some of all":               Line(),
		"some of all, not busy":     calm,
		"a long list":               Queue(9, 60, true),
		"a long Back":               Queue(9, 60, false),
	}
}

// WrongLines answers lines that aren't right, each with one fault.
func WrongLines() map[string]api.Line {
	wrong := map[string]api.Line{
		"no node, and a list of one": {Stack: [][]int{{0}}},
		"no node, and one in Back":   {Back: []int{0}},
		"no node, and None in Back":  {Back: []int{api.None}, Busy: true},
		"an empty current list":      {Back: []int{0}, Stack: [][]int{{}}},
	}
	for what, spoil := range map[string]func(l *api.Line){
		"-1 first in a list":           func(l *api.Line) { l.Stack[0][0] = -1 },
		"-1 last in the current list":  func(l *api.Line) { l.Stack[2][2] = -1 },
		"-1 in Back":                   func(l *api.Line) { l.Back[0] = -1 },
		"Self in a list":               func(l *api.Line) { l.Stack[1] = []int{api.Self} },
		"the least number in Back":     func(l *api.Line) { l.Back[2] = Least },
		"the least number in a list":   func(l *api.Line) { l.Stack[0][1] = Least },
		"one too many in a list":       func(l *api.Line) { l.Stack[0][1] = 6 },
		"one too many last in it":      func(l *api.Line) { l.Stack[2] = append(l.Stack[2], 6) },
		"one too many in Back":         func(l *api.Line) { l.Back = append(l.Back, 6) },
		"one too many first in Back":   func(l *api.Line) { l.Back[0] = 6 },
		"the greatest number in Back":  func(l *api.Line) { l.Back[1] = Greatest },
		"the greatest one in a list":   func(l *api.Line) { l.Stack[2][0] = Greatest },
		"fewer nodes than are in Back": func(l *api.Line) { l.Todos = l.Todos[:4] },
		"fewer nodes than in a list":   func(l *api.Line) { l.Todos, l.Back = l.Todos[:3], nil },
	} {
		l := Line()
		spoil(&l)
		wrong[what] = l
	}
	return wrong
}

// Rank answers a line that chance has put together, the same one for each seed; it is right.
func Rank(seed int) api.Line {
	c := chance(seed)
	return c.line(1 + c.below(5))
}

// line answers a line of so many nodes.
func (c *chance) line(nodes int) api.Line {
	t := Todos()
	l := api.Line{Todos: make([][]api.Todo, nodes), Busy: c.below(2) == 0}
	some := func() []int {
		var list []int
		for range c.below(4) {
			list = append(list, c.below(len(l.Todos)))
		}
		return list
	}
	for n := range l.Todos {
		for range c.below(4) {
			l.Todos[n] = append(l.Todos[n], t[c.below(len(t))])
		}
	}
	for range c.below(4) {
		l.Stack = append(l.Stack, some())
	}
	l.Back = some()
	return l
}

// SameLine tells whether two lines are the same.
func SameLine(l, m api.Line) bool {
	return sameLists(l.Todos, m.Todos) && sameLists(l.Stack, m.Stack) && slices.Equal(l.Back, m.Back) && l.Busy == m.Busy
}

// CopyLine answers l in memory of its own, without spare room.
func CopyLine(l api.Line) api.Line {
	return api.Line{Todos: copyLists(l.Todos), Stack: copyLists(l.Stack), Back: slices.Clip(slices.Clone(l.Back)), Busy: l.Busy}
}

// AskLine answers, in memory of its own, what a call answers to l: a line, and a list beside it, if it has one;
// and, if the call isn't careful with memory, how so: it changes what it is given, spare room and all, or shares
// memory with that, or its lists do with each other.
func AskLine(l api.Line, call func(l api.Line) (api.Line, []int)) (api.Line, []int, string) {
	given, whole := roomyLine(l)
	m, beside := call(given)
	answer, list := CopyLine(m), slices.Clone(beside)
	number := func(i int) int { return i }
	label := func(i int) api.Todo { return api.Todo{From: i} }
	numbers := append(wide(m.Stack), m.Back[:cap(m.Back)], beside[:cap(beside)])
	if !apart(numbers, number) || !apart(wide(m.Todos), label) {
		return answer, list, "lists of the answer share memory"
	}
	scribble(m.Todos, api.Todo{Name: "mine"})
	scribble(m.Stack, 999)
	scribble([][]int{m.Back, beside}, 999)
	if !listsStay(given.Todos, whole.Todos) || !listsStay(given.Stack, whole.Stack) || !listsStay([][]int{given.Back}, [][]int{whole.Back}) {
		return answer, list, "what was handed in is changed, or shared"
	}
	return answer, list, ""
}

// sameLists tells whether two lists of lists are the same.
func sameLists[T comparable](a, b [][]T) bool { return slices.EqualFunc(a, b, slices.Equal[[]T]) }

// copyLists answers these lists in memory of their own, without spare room.
func copyLists[T any](all [][]T) [][]T {
	all = slices.Clip(slices.Clone(all))
	for i, l := range all {
		all[i] = slices.Clip(slices.Clone(l))
	}
	return all
}

// roomyLine answers l with room to spare behind each of its lists, and what stands in those with the room.
func roomyLine(l api.Line) (api.Line, api.Line) {
	given, whole := l, l
	given.Todos, whole.Todos = roomyLists(l.Todos, api.Todo{Name: "spare"})
	given.Stack, whole.Stack = roomyLists(l.Stack, 77)
	back, all := roomyLists([][]int{l.Back}, 77)
	given.Back, whole.Back = back[0], all[0]
	return given, whole
}

// roomyLists does for lists what roomyLine does for a line's.
func roomyLists[T any](all [][]T, spare T) ([][]T, [][]T) {
	fill := slices.Repeat([]T{spare}, room)
	whole := slices.Clone(all)
	for i, l := range all {
		whole[i] = append(slices.Clone(l), fill...)
	}
	for range room {
		whole = append(whole, slices.Clone(fill))
	}
	given := copyLists(whole)[:len(all)]
	for i, l := range all {
		given[i] = given[i][:len(l)]
	}
	return given, whole
}

// listsStay tells whether the lists given, of roomyLists's, have in them, and behind them, what whole says.
func listsStay[T comparable](given, whole [][]T) bool {
	spare := given[len(given):cap(given)]
	for i, l := range given {
		if len(l)+room != len(whole[i]) || cap(l) < len(whole[i]) || !slices.Equal(l[:len(whole[i])], whole[i]) {
			return false
		}
	}
	return sameLists(spare, whole[len(given):])
}

// wide answers these lists, those in the spare room, too, each with its own.
func wide[T any](all [][]T) [][]T {
	all = slices.Clone(all[:cap(all)])
	for i, l := range all {
		all[i] = l[:cap(l)]
	}
	return all
}

// scribble writes mine all over these lists, spare room and all, and takes them away.
func scribble[T any](all [][]T, mine T) {
	for _, l := range wide(all) {
		for i := range l {
			l[i] = mine
		}
	}
	for i := range all[:cap(all)] {
		all[:cap(all)][i] = []T{mine}
	}
}
