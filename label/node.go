package label

import (
	"maps"
	"slices"

	"bringup/api"
)

// node is a node of the tree that definitions make.
type node struct {
	parent     *node // nil for the root
	name       string
	depth      int  // how many levels it is below the root
	gone       bool // it has been removed
	children   map[string]*node
	properties map[string]api.Definition // the last definition of each one

	// These are known when all definitions are done.
	index   int
	phandle int    // 0 if there is none
	needed  bool   // a cell refers to it
	path    string // if a part refers to it
}

func newNode(parent *node, name string) *node {
	n := &node{parent: parent, name: name, children: map[string]*node{}, properties: map[string]api.Definition{}}
	if parent != nil {
		n.depth = parent.depth + 1
	}
	return n
}

// walk calls a function for a node and all that is below it, in the order of the tree.
func (n *node) walk(see func(*node)) {
	see(n)
	for _, name := range slices.Sorted(maps.Keys(n.children)) {
		n.children[name].walk(see)
	}
}

// sorted returns the properties of a node in the order of their names.
func (n *node) sorted() []api.Definition {
	var out []api.Definition
	for _, name := range slices.Sorted(maps.Keys(n.properties)) {
		out = append(out, n.properties[name])
	}
	return out
}
