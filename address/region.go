package address

import (
	"bringup/api"
	"bringup/tree"
)

// machine is a tree with what its nodes say of addresses.
type machine struct {
	nodes []api.Node
	buses []bus
}

// located is a region that has been translated.
type located struct {
	place  api.Place
	region api.Region
}

// read reads all nodes of a tree; with an error it returns the node that has it.
func read(t api.Tree) (machine, int, api.Errno) {
	if e := tree.Check(t); e != api.OK {
		return machine{}, 0, e
	}
	out := machine{nodes: t.Nodes}
	for i, n := range t.Nodes {
		parent := bus{}
		if i > 0 {
			parent = out.buses[n.Parent]
		}
		b, e := newBus(n, parent)
		if e != api.OK {
			return machine{}, i, e
		}
		out.buses = append(out.buses, b)
	}
	return out, 0, api.OK
}

// translate returns a region of a node as the children of the root see it, and whether they do.
func (m machine) translate(node int, r api.Region) (api.Region, bool) {
	ok := true
	for parent := m.nodes[node].Parent; parent > 0 && ok; parent = m.nodes[parent].Parent {
		r, ok = m.buses[parent].through(r)
	}
	return r, ok
}

// translated returns all regions that can be translated, in the order of their places.
func (m machine) translated() []located {
	var out []located
	for node, b := range m.buses {
		for i, r := range b.regions {
			if r, ok := m.translate(node, r); ok {
				out = append(out, located{api.Place{Node: node, Index: i}, r})
			}
		}
	}
	return out
}

// overlaps returns the pairs of regions that have common addresses.
func overlaps(nodes []api.Node, l []located) []api.Overlap {
	// There may be millions of them, so they are counted before they are listed.
	n := 0
	visit(nodes, l, func(api.Overlap) { n++ })
	out := make([]api.Overlap, 0, n)
	visit(nodes, l, func(o api.Overlap) { out = append(out, o) })
	return out
}

// visit calls a function for each pair of regions that have common addresses, and of which neither's node is the other's or below it.
func visit(nodes []api.Node, l []located, found func(api.Overlap)) {
	for i, a := range l {
		next := behind(nodes, a.place.Node)
		for _, b := range l[i+1:] {
			if b.place.Node >= next && meet(a.region, b.region) {
				found(api.Overlap{First: a.place, Second: b.place})
			}
		}
	}
}

// behind returns the first index that belongs neither to a node nor to one below it.
func behind(nodes []api.Node, node int) int {
	i := node + 1
	for i < len(nodes) && nodes[i].Parent >= node {
		i++
	}
	return i
}

// meet reports whether two regions have a common address.
func meet(a, b api.Region) bool {
	return max(a.Base, b.Base) < min(end(a), end(b))
}
