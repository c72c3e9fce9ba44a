package tree

import (
	"bringup/api"
	"bringup/token"
)

// edit returns the tree with the nodes that a function makes of a copy of those of a valid tree, and of the index of the node with a path.
func edit(t api.Tree, path string, change func(nodes []api.Node, node int) ([]api.Node, api.Errno)) (api.Tree, api.Errno) {
	if e := Check(t); e != api.OK {
		return api.Tree{}, e
	}
	node, ok := find(t.Nodes, path)
	if !ok {
		return api.Tree{}, api.ErrUnknown
	}
	nodes, e := change(copied(t.Nodes), node)
	return api.Tree{Nodes: nodes}, e
}

// copied returns nodes that share no memory with others.
func copied(nodes []api.Node) []api.Node {
	out := append([]api.Node(nil), nodes...)
	for i := range out {
		out[i].Properties = append([]api.Property(nil), out[i].Properties...)
	}
	return out
}

// add puts a child of a node into its place.
func add(nodes []api.Node, parent int, name string) ([]api.Node, api.Errno) {
	if e := addable(nodes, parent, name); e != api.OK {
		return nil, e
	}
	behind := end(nodes, parent)
	at := seek(nodes, func(i int) bool {
		return i == behind || nodes[i].Parent == parent && nodes[i].Name > name
	})
	move(nodes, at, 1)
	return with(nodes, at, api.Node{Parent: parent, Name: name}), api.OK
}

// addable returns the first error that a child of a node would have.
func addable(nodes []api.Node, parent int, name string) api.Errno {
	same := func(i int) bool { return nodes[i].Parent == parent && nodes[i].Name == name }
	switch {
	case !token.Name(name):
		return api.ErrInvalid
	case seek(nodes, same) < len(nodes):
		return api.ErrDuplicate
	case depth(nodes, parent) >= api.MaxDepth:
		return api.ErrRange
	case len(nodes) >= api.MaxNodes:
		return api.ErrLimit
	}
	return api.OK
}

// set puts a property into its place, or in the place of the one with its name.
func set(nodes []api.Node, node int, p api.Property) ([]api.Node, api.Errno) {
	if !Property(p.Name) {
		return nil, api.ErrInvalid
	}
	l := nodes[node].Properties
	at, found := search(l, p.Name)
	if !found && len(l) >= api.MaxProperties || len(p.Value) > api.MaxValue {
		return nil, api.ErrLimit
	}
	if found {
		l[at] = p
	} else {
		nodes[node].Properties = with(l, at, p)
	}
	return nodes, api.OK
}

// unset takes a property away.
func unset(nodes []api.Node, node int, name string) ([]api.Node, api.Errno) {
	l := nodes[node].Properties
	at, found := search(l, name)
	if !found {
		return nil, api.ErrUnknown
	}
	nodes[node].Properties = without(l, at, at+1)
	return nodes, api.OK
}

// remove takes a node away, with all that is below it.
func remove(nodes []api.Node, node int) ([]api.Node, api.Errno) {
	if node == 0 {
		return nil, api.ErrInvalid
	}
	behind := end(nodes, node)
	move(nodes, behind, node-behind)
	return without(nodes, node, behind), api.OK
}

// end returns the index after a node and all that is below it: there is the first node, or the end of the list, whose parent comes before this one.
func end(nodes []api.Node, node int) int {
	return seek(nodes, func(i int) bool { return i > node && nodes[i].Parent < node })
}

// move tells the children of the nodes from an index on that these change their places by so many.
func move(nodes []api.Node, from, by int) {
	for i := range nodes {
		if nodes[i].Parent >= from {
			nodes[i].Parent += by
		}
	}
}

// with returns a list with one more element at an index.
func with[T any](l []T, at int, x T) []T {
	// The slice ends where its capacity does, so what comes after it is not written over.
	return append(append(l[:at:at], x), l[at:]...)
}

// without returns a list without the elements from one index up to another one; nil if none are left, so that equal trees are equal data.
func without[T any](l []T, from, to int) []T {
	return append(append([]T(nil), l[:from]...), l[to:]...)
}
