package sample

import (
	"strings"

	"instar/api"
)

// Fields answers the fields of operations of this Kind, in the words in which the document lists them; none, if
// there is no such Kind.
func Fields(kind int) []string {
	switch kind {
	case api.NewOp, api.DraftOp, api.SetOp, api.HandSetOp:
		return []string{"node A", "text S", "text T"}
	case api.TextOp, api.UnsetOp, api.RestoreOp:
		return []string{"node A", "text S"}
	case api.FragOp, api.ShadeOp, api.OutOp, api.EmptyOp, api.JoinOp, api.UpgradeOp, api.GiveOp, api.ResetOp, api.HandOutOp:
		return []string{"node A"}
	case api.PutOp, api.SwapOp, api.HandPutOp:
		return []string{"node A", "node B", "node or none C"}
	case api.ToggleOp:
		return []string{"node A", "number B", "text S"}
	case api.CopyOp:
		return []string{"node A", "number B", "node C"}
	case api.TakeOp:
		return []string{"node A", "node B"}
	case api.DefineOp:
		return []string{"number A", "text S", "text T"}
	case api.WaitOp:
		return []string{"text S"}
	case api.BuildOp:
		return []string{"number A"}
	}
	return nil
}

// NumberAt answers where in o that field is, if its name ends in A, B or C.
func NumberAt(o *api.Op, field string) *int {
	switch field[len(field)-1] {
	case 'A':
		return &o.A
	case 'B':
		return &o.B
	}
	return &o.C
}

// TextAt answers where in o that field is, if its name ends in S or T.
func TextAt(o *api.Op, field string) *string {
	if strings.HasSuffix(field, "S") {
		return &o.S
	}
	return &o.T
}

// RightOp answers a right operation that chance has put together, the same one for each seed. Its nodes are below
// many, or told by other means.
func RightOp(seed, many int) api.Op {
	c := chance(seed)
	o := api.Op{Kind: 1 + c.below(api.HandSetOp), Must: c.below(3) == 0}
	for _, field := range Fields(o.Kind) {
		switch field[:len(field)-2] {
		case "node":
			*NumberAt(&o, field) = c.node(many)
		case "node or none":
			*NumberAt(&o, field) = c.node(many)
			if c.below(2) == 0 {
				*NumberAt(&o, field) = api.None
			}
		case "number":
			*NumberAt(&o, field) = c.below(4) - 1
			if c.below(4) == 0 {
				*NumberAt(&o, field) = c.below(2001) - 1000
			}
		case "text":
			*TextAt(&o, field) = c.pick("", "a", "title", "p", "button", "x-a", "x-b", "X-A", `"\`, "\x00\xff \r", strings.Repeat("v", api.MaxValue))
		}
	}
	return o
}

// node answers a node below many, or Self, or Last.
func (c *chance) node(many int) int {
	if other := c.below(8); other < 2 {
		return api.Self - other
	}
	return c.below(many)
}
