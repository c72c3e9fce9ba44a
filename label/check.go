package label

import (
	"strings"

	"bringup/api"
	"bringup/token"
	"bringup/tree"
)

// check returns the first error of a definition that does not depend on which nodes there are.
func (b *builder) check(d api.Definition) api.Errno {
	top := len(b.open) == 0
	switch {
	case !possible(d, top) || !partsKnown(d.Parts):
		return api.ErrSyntax
	case !nameValid(d, top) || d.Label != "" && !token.Label(d.Label):
		return api.ErrInvalid
	}
	return api.OK
}

// possible reports whether a definition can be at the top, or else in a node.
func possible(d api.Definition, top bool) bool {
	switch d.Kind {
	case api.DefNode:
		return !top || d.Name == "/" || reference(d.Name)
	case api.DefRemove:
		return !top || reference(d.Name)
	case api.DefEnd, api.DefProperty, api.DefDelete:
		return !top
	}
	return false
}

// reference reports whether a name is '&' and a label.
func reference(name string) bool {
	label, ok := strings.CutPrefix(name, "&")
	return ok && token.Label(label)
}

// partsKnown reports whether parts are of the kinds that there are.
func partsKnown(l []api.Part) bool {
	for _, p := range l {
		if p.Kind < api.PartCells || p.Kind > api.PartPath {
			return false
		}
	}
	return true
}

// nameValid reports whether a definition that is possible has a name as its kind needs it.
func nameValid(d api.Definition, top bool) bool {
	switch d.Kind {
	case api.DefNode, api.DefRemove:
		return top || token.Name(d.Name)
	case api.DefProperty, api.DefDelete:
		return tree.Property(d.Name)
	}
	return true
}
