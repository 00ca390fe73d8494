package sample

import (
	"strconv"

	"instar/api"
	"instar/print"
)

// Loose answers a forest in which the node that the text s tells stands by itself: it is 1, behind a Doc. It
// panics as Forest does.
func Loose(s string) api.Forest {
	f, n, err := print.Fresh(s, api.MaxNodes)
	if err != api.OK || n != 1 {
		panic("sample: no such text")
	}
	return f
}

// Rooted answers a forest in which the node that the text s tells stands in the Doc. It panics as Forest does.
func Rooted(s string) api.Forest {
	f := Loose(s)
	if f.Nodes[1].Kind != api.Elem {
		panic("sample: no such child of a Doc")
	}
	Hang(f, 0, 1)
	return f
}

// Papers answers forests, right ones and wrong ones, and bureaus.
func Papers() map[string]api.Forest {
	all := Right()
	for what, f := range Wrong() {
		all[what] = f
	}
	for seed := range 300 {
		all["bureau "+strconv.Itoa(seed)] = Bureau(seed)
	}
	return all
}
