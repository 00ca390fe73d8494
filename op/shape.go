package op

import (
	"strconv"

	"instar/api"
)

// field is what stands in a field of an operation.
type field int

const (
	nothing field = iota
	number
	node
	orNone // a node or none
)

// The numbers that may stand in a field are from least to greatest.
const (
	least    = -1000
	greatest = 1000
)

// shape is how operations of a Kind look: their word, what stands in A, B and C, and how many of S and T they
// have.
type shape struct {
	word   string
	fields [3]field
	texts  int
}

// shapes stand by their Kinds. That of BadOp has no word.
var shapes = [...]shape{
	api.NewOp:     {"new", [3]field{node}, 2},
	api.DraftOp:   {"draft", [3]field{node}, 2},
	api.TextOp:    {"text", [3]field{node}, 1},
	api.FragOp:    {"frag", [3]field{node}, 0},
	api.ShadeOp:   {"shade", [3]field{node}, 0},
	api.PutOp:     {"put", [3]field{node, node, orNone}, 0},
	api.OutOp:     {"out", [3]field{node}, 0},
	api.SwapOp:    {"swap", [3]field{node, node, orNone}, 0},
	api.SetOp:     {"set", [3]field{node}, 2},
	api.UnsetOp:   {"unset", [3]field{node}, 1},
	api.ToggleOp:  {"toggle", [3]field{node, number}, 1},
	api.CopyOp:    {"copy", [3]field{node, number, node}, 0},
	api.TakeOp:    {"take", [3]field{node, node}, 0},
	api.EmptyOp:   {"empty", [3]field{node}, 0},
	api.JoinOp:    {"join", [3]field{node}, 0},
	api.DefineOp:  {"define", [3]field{number}, 2},
	api.WaitOp:    {"wait", [3]field{}, 1},
	api.UpgradeOp: {"upgrade", [3]field{node}, 0},
	api.BuildOp:   {"build", [3]field{number}, 0},
	api.SuperOp:   {"super", [3]field{}, 0},
	api.GiveOp:    {"give", [3]field{node}, 0},
	api.ThrowOp:   {"throw", [3]field{}, 0},
	api.ResetOp:   {"reset", [3]field{node}, 0},
	api.RestoreOp: {"restore", [3]field{node}, 1},
	api.RestOp:    {"rest", [3]field{}, 0},
	api.HandPutOp: {"handput", [3]field{node, node, orNone}, 0},
	api.HandOutOp: {"handout", [3]field{node}, 0},
	api.HandSetOp: {"handset", [3]field{node}, 2},
}

// kindOf answers the Kind whose word this is, or BadOp.
func kindOf(word string) int {
	for kind, s := range shapes {
		if s.word == word {
			return kind
		}
	}
	return api.BadOp
}

// may tells whether n may stand in the field.
func (f field) may(n int) bool {
	switch f {
	case orNone:
		if n == api.None {
			return true
		}
		fallthrough
	case node:
		return n == api.Self || n == api.Last || n >= 0 && n < api.MaxNodes
	case number:
		return n >= least && n <= greatest
	}
	return n == 0
}

// put answers n, as it stands in the field, as text.
func (f field) put(n int) string {
	switch f {
	case orNone:
		if n == api.None {
			return "-"
		}
		fallthrough
	case node:
		switch n {
		case api.Self:
			return "self"
		case api.Last:
			return "last"
		}
	}
	return strconv.Itoa(n)
}

// read answers what would be put into the field as this word. If nothing would be, it is any number.
func (f field) read(word string) int {
	switch f {
	case orNone:
		if word == "-" {
			return api.None
		}
		fallthrough
	case node:
		switch word {
		case "self":
			return api.Self
		case "last":
			return api.Last
		}
	}
	n, _ := strconv.Atoi(word)
	return n
}

// aim answers whom n means, as it stands in the field, and whether that may be.
func (f field) aim(n, self, many int) (int, bool) {
	switch f {
	case orNone:
		if n == api.None {
			return n, true
		}
		fallthrough
	case node:
		switch n {
		case api.Self:
			n = self
		case api.Last:
			n = many - 1
		}
		return n, n >= 0 && n < many
	}
	return n, true
}
