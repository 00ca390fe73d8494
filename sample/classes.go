package sample

import (
	"slices"
	"strconv"

	"instar/api"
)

// Hook answers a hook of this kind; its program has so many operations, of the kinds from first on.
func Hook(kind, first, count int) api.Hook { return api.Hook{Kind: kind, Do: Ops(first, count)} }

// Ops answers so many operations, of the kinds from first on, each with all of its fields filled.
func Ops(first, count int) []api.Op {
	var l []api.Op
	for kind := first; kind < first+count; kind++ {
		l = append(l, api.Op{Kind: kind, A: kind + 100, B: kind + 200, C: kind + 300, S: "s", T: "t", Must: true})
	}
	return l
}

// Classes answers classes with some of all:
//
//	0 hears of Came, twice, and of Changed, and watches b, a and b once more
//	1 is for forms, and hears of all but Changed, so it watches a in vain
//	2 hears of all, of each by an empty program, and watches title and a
//	3 hears of Changed, but watches nothing
//	4 is nothing at all
func Classes() []api.Class {
	var all, others []api.Hook
	for kind := api.Came; kind <= api.Restored; kind++ {
		all = append(all, api.Hook{Kind: kind})
		if kind != api.Changed {
			others = append(others, Hook(kind, kind, 2))
		}
	}
	return []api.Class{
		{Watch: []string{"b", "a", "b"}, Make: Ops(21, 1), Hooks: []api.Hook{Hook(api.Came, 1, 3), Hook(api.Changed, 4, 1), Hook(api.Came, 7, 2)}},
		{Form: true, Watch: []string{"a"}, Peek: Ops(3, 2), Make: Ops(5, 2), Hooks: others},
		{Watch: []string{"title", "a"}, Hooks: all},
		{Hooks: []api.Hook{Hook(api.Changed, 9, 2)}},
		{},
	}
}

// Guild answers six classes that chance has put together, the same ones for each seed.
func Guild(seed int) []api.Class {
	c := chance(seed)
	l := make([]api.Class, 6)
	for i := range l {
		l[i].Form = c.below(2) == 0
		for range c.below(4) {
			l[i].Watch = append(l[i].Watch, c.pick("a", "b", "c", "title"))
		}
		for range c.below(7) {
			l[i].Hooks = append(l[i].Hooks, Hook(1+c.below(5), 1+c.below(20), c.below(3)))
		}
	}
	return l
}

// Crew answers three or four classes that chance has put together, the same ones for each seed: most are for forms,
// and each hears of some of what befalls elements of forms, of some of it twice.
func Crew(seed int) []api.Class {
	c := chance(seed)
	l := make([]api.Class, 3+c.below(2))
	for i := range l {
		l[i].Form = c.below(4) > 0
		for range c.below(6) {
			l[i].Hooks = append(l[i].Hooks, Hook(api.Owned+c.below(4), 1+c.below(20), c.below(3)))
		}
	}
	return l
}

// SameClasses tells whether two lists of classes are the same.
func SameClasses(a, b []api.Class) bool { return slices.EqualFunc(a, b, SameClass) }

// SameClass tells whether two classes are the same.
func SameClass(a, b api.Class) bool {
	sameHook := func(g, h api.Hook) bool { return g.Kind == h.Kind && slices.Equal(g.Do, h.Do) }
	return a.Form == b.Form && slices.Equal(a.Watch, b.Watch) && slices.Equal(a.Peek, b.Peek) && slices.Equal(a.Make, b.Make) &&
		slices.EqualFunc(a.Hooks, b.Hooks, sameHook)
}

// CopyClasses answers these classes in memory of their own, without spare room.
func CopyClasses(all []api.Class) []api.Class {
	all = slices.Clip(slices.Clone(all))
	for i, c := range all {
		programs := copyLists([][]api.Op{c.Peek, c.Make})
		all[i].Watch, all[i].Peek, all[i].Make = slices.Clip(slices.Clone(c.Watch)), programs[0], programs[1]
		all[i].Hooks = slices.Clip(slices.Clone(c.Hooks))
		for j, h := range c.Hooks {
			all[i].Hooks[j].Do = slices.Clip(slices.Clone(h.Do))
		}
	}
	return all
}

// AskClasses answers, in memory of its own, what a call answers to these classes: classes, and a program beside
// them, if it has one; and, if the call isn't careful with memory, how so: it changes what it is given, spare room
// and all, or shares memory with that, or its lists do with each other.
func AskClasses(all []api.Class, call func(all []api.Class) ([]api.Class, []api.Op)) ([]api.Class, []api.Op, string) {
	given, whole := roomyClasses(all)
	got, beside := call(given)
	answer, program := CopyClasses(got), slices.Clone(beside)
	if !classesApart(got, beside) {
		return answer, program, "lists of the answer share memory"
	}
	for i := range got[:cap(got)] {
		got[:cap(got)][i] = api.Class{Watch: []string{"mine"}}
	}
	if !SameClasses(stretched(given), whole) {
		return answer, program, "what was handed in is changed, or shared"
	}
	return answer, program, ""
}

// roomyClasses answers all with room to spare behind each of their lists, and what stands in those with the room.
func roomyClasses(all []api.Class) ([]api.Class, []api.Class) {
	whole := CopyClasses(all)
	for i, c := range whole {
		for j, h := range c.Hooks {
			c.Hooks[j].Do = append(h.Do, Ops(71, room)...)
		}
		whole[i].Watch, whole[i].Hooks = append(c.Watch, slices.Repeat([]string{"spare"}, room)...), append(c.Hooks, make([]api.Hook, room)...)
		whole[i].Peek, whole[i].Make = append(c.Peek, Ops(74, room)...), append(c.Make, Ops(77, room)...)
	}
	whole = append(whole, make([]api.Class, room)...)
	given := CopyClasses(whole)[:len(all)]
	for i, c := range all {
		g := &given[i]
		g.Watch, g.Peek, g.Make, g.Hooks = g.Watch[:len(c.Watch)], g.Peek[:len(c.Peek)], g.Make[:len(c.Make)], g.Hooks[:len(c.Hooks)]
		for j, h := range c.Hooks {
			g.Hooks[j].Do = g.Hooks[j].Do[:len(h.Do)]
		}
	}
	return given, whole
}

// stretched answers the classes given, of roomyClasses's, with the room that their lists have.
func stretched(given []api.Class) []api.Class {
	all := slices.Clone(stretch(given))
	for i, c := range given {
		hooks := slices.Clone(stretch(c.Hooks))
		for j, h := range c.Hooks {
			hooks[j].Do = stretch(h.Do)
		}
		all[i].Watch, all[i].Peek, all[i].Make, all[i].Hooks = stretch(c.Watch), stretch(c.Peek), stretch(c.Make), hooks
	}
	return all
}

// stretch answers l with the room to spare that was given, as far as it is there.
func stretch[T any](l []T) []T { return l[:min(len(l)+room, cap(l))] }

// classesApart tells whether no two lists that hang on these classes, nor the program beside them, share memory,
// spare room and all. It changes all of them.
func classesApart(all []api.Class, beside []api.Op) bool {
	watch, programs := [][]string{}, [][]api.Op{beside[:cap(beside)]}
	var hooks [][]api.Hook
	for _, c := range all[:cap(all)] {
		own := c.Hooks[:cap(c.Hooks)]
		watch, hooks = append(watch, c.Watch[:cap(c.Watch)]), append(hooks, own)
		programs = append(programs, c.Peek[:cap(c.Peek)], c.Make[:cap(c.Make)])
		for _, h := range own {
			programs = append(programs, h.Do[:cap(h.Do)])
		}
	}
	if !apart(watch, strconv.Itoa) || !apart(programs, func(i int) api.Op { return api.Op{A: i} }) {
		return false
	}
	for i, l := range hooks {
		for j := range l {
			l[j] = api.Hook{Kind: i}
		}
	}
	for i, l := range hooks {
		if slices.ContainsFunc(l, func(h api.Hook) bool { return h.Kind != i }) {
			return false
		}
	}
	return true
}
