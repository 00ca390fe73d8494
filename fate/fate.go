// Package fate answers which definition is for an element. It asks nothing of the forest that the element
// stands in, nor of the desk: whoever calls it knows that both are right, and so needn't have that asked anew
// of each element.
package fate

import (
	"instar/api"
	"instar/desk"
)

// Of answers the place of the definition that is for e: None, if none is, or e is no Elem.
func Of(e api.Node, d api.Desk) int {
	if e.Kind != api.Elem || e.Doc != 0 {
		return api.None
	}
	// The desk sees each time whether it is right, with all who wait. Who waits is nobody's fate: so they
	// needn't be there.
	d.Waits = nil
	return desk.Find(d, e.Name, e.Is)
}
