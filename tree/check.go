package tree

import (
	"bringup/api"
	"bringup/token"
)

// limited reports whether the numbers of nodes, of properties and of the bytes of values are within their limits.
func limited(nodes []api.Node) bool {
	if len(nodes) == 0 || len(nodes) > api.MaxNodes {
		return false
	}
	for _, n := range nodes {
		if len(n.Properties) > api.MaxProperties {
			return false
		}
		for _, p := range n.Properties {
			if len(p.Value) > api.MaxValue {
				return false
			}
		}
	}
	return true
}

// formed reports whether the first node is a root, the others have an earlier one as parent, and all names are names.
func formed(nodes []api.Node) bool {
	for i, n := range nodes {
		if i == 0 && (n.Parent != -1 || n.Name != "") {
			return false
		}
		if i > 0 && (n.Parent < 0 || n.Parent >= i || !token.Name(n.Name)) {
			return false
		}
		for _, p := range n.Properties {
			if !Property(p.Name) {
				return false
			}
		}
	}
	return true
}

// ordered reports whether the nodes are in the order of a walk, and the properties of each one are ascending.
func ordered(nodes []api.Node) bool {
	for i, n := range nodes {
		if i > 0 && !follows(nodes, i) || !ascending(n.Properties) {
			return false
		}
	}
	return true
}

// follows reports whether a node can come after the one before it: as its first child, or as the next child of a node that it is below.
func follows(nodes []api.Node, node int) bool {
	n := nodes[node]
	if n.Parent == node-1 {
		return true
	}
	for i := node - 1; i > 0; i = nodes[i].Parent {
		if nodes[i].Parent == n.Parent {
			// Two equal names are in order here: they are another error.
			return nodes[i].Name <= n.Name
		}
	}
	return false
}

// ascending reports whether the names of properties are strictly ascending.
func ascending(l []api.Property) bool {
	for i := 1; i < len(l); i++ {
		if l[i-1].Name >= l[i].Name {
			return false
		}
	}
	return true
}

// twins reports whether two children of a node have the same name.
func twins(nodes []api.Node) bool {
	type child struct {
		parent int
		name   string
	}
	seen := map[child]bool{}
	for _, n := range nodes {
		c := child{n.Parent, n.Name}
		if seen[c] {
			return true
		}
		seen[c] = true
	}
	return false
}

// tooDeep reports whether a node is too many levels below the root.
func tooDeep(nodes []api.Node) bool {
	return seek(nodes, func(i int) bool { return depth(nodes, i) > api.MaxDepth }) < len(nodes)
}

// depth returns how many levels a node is below the root.
func depth(nodes []api.Node, node int) int {
	levels := 0
	for ; node > 0; node = nodes[node].Parent {
		levels++
	}
	return levels
}
