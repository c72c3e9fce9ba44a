package tree

import (
	"slices"
	"strings"

	"bringup/api"
)

// seek returns the index of the first node of which something holds, and the number of nodes if there is none.
func seek(nodes []api.Node, holds func(node int) bool) int {
	for i := range nodes {
		if holds(i) {
			return i
		}
	}
	return len(nodes)
}

// has reports whether a tree is valid and has a node with an index.
func has(t api.Tree, node int) bool {
	return node >= 0 && node < len(t.Nodes) && Check(t) == api.OK
}

// find returns the index of the node with a path, and whether there is one.
func find(nodes []api.Node, path string) (int, bool) {
	node := seek(nodes, func(i int) bool { return pathOf(nodes, i) == path })
	if node == len(nodes) {
		return 0, false
	}
	return node, true
}

// pathOf returns the path of a node.
func pathOf(nodes []api.Node, node int) string {
	if node == 0 {
		return "/"
	}
	path := ""
	for ; node > 0; node = nodes[node].Parent {
		path = "/" + nodes[node].Name + path
	}
	return path
}

// search returns the index of the property with a name, or the one at which it would be, and whether there is one.
func search(l []api.Property, name string) (int, bool) {
	return slices.BinarySearchFunc(l, name, func(p api.Property, name string) int {
		return strings.Compare(p.Name, name)
	})
}
