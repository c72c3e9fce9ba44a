package label

import (
	"maps"
	"slices"

	"bringup/api"
	"bringup/tree"
)

const phandleName = "phandle"

// resolver makes a tree of nodes when all definitions are done.
type resolver struct {
	nodes  []*node          // in the order of the tree
	labels map[string]*node // those that stand for one of the nodes
	taken  map[int]bool     // the phandles that nodes have
	tree   api.Tree         // without properties, as long as their values are not known
}

func newResolver(root *node, labels map[string]*node) *resolver {
	r := &resolver{labels: labels, taken: map[int]bool{}}
	root.walk(r.add)
	return r
}

// add puts a node into the tree, in which its parent is already.
func (r *resolver) add(n *node) {
	parent := -1
	if n.parent != nil {
		parent = n.parent.index
	}
	n.index = len(r.nodes)
	r.nodes = append(r.nodes, n)
	r.tree.Nodes = append(r.tree.Nodes, api.Node{Parent: parent, Name: n.name})
}

// labelled returns the labels in their order, with the nodes that they stand for.
func (r *resolver) labelled() []api.Labelled {
	var out []api.Labelled
	for _, label := range slices.Sorted(maps.Keys(r.labels)) {
		out = append(out, api.Labelled{Label: label, Node: r.labels[label].index})
	}
	return out
}

// resolve gives the tree its properties: each error is decided for all of them before the next one.
func (r *resolver) resolve() (api.Position, api.Errno) {
	for _, stage := range []func() (api.Position, api.Errno){r.numbers, r.references, r.assign, r.values} {
		if place, e := stage(); e != api.OK {
			return place, e
		}
	}
	return api.Position{}, api.OK
}

// visit calls a function for all properties in the order of the tree, up to the first error, which has the position of its property.
func (r *resolver) visit(see func(n *node, d api.Definition) api.Errno) (api.Position, api.Errno) {
	for _, n := range r.nodes {
		for _, d := range n.sorted() {
			if e := see(n, d); e != api.OK {
				return d.Position, e
			}
		}
	}
	return api.Position{}, api.OK
}

// numbers checks the numbers of all cells, and takes the phandles that are written out.
func (r *resolver) numbers() (api.Position, api.Errno) {
	return r.visit(func(n *node, d api.Definition) api.Errno {
		if !inRange(d.Parts) {
			return api.ErrRange
		}
		if d.Name != phandleName {
			return api.OK
		}
		phandle, ok := phandleOf(d.Parts)
		switch {
		case !ok:
			return api.ErrRange
		case r.taken[phandle]:
			return api.ErrDuplicate
		}
		r.take(n, phandle)
		return api.OK
	})
}

// take gives a node a phandle.
func (r *resolver) take(n *node, phandle int) {
	n.phandle = phandle
	r.taken[phandle] = true
}

// references finds out what the properties need of the nodes to which they refer.
func (r *resolver) references() (api.Position, api.Errno) {
	return r.visit(func(_ *node, d api.Definition) api.Errno {
		for _, p := range d.Parts {
			if e := r.refer(p); e != api.OK {
				return e
			}
		}
		return api.OK
	})
}

// refer does so for a part: its cells need the phandles of nodes, or it needs the path of one.
func (r *resolver) refer(p api.Part) api.Errno {
	for _, c := range cells(p) {
		if c.Label == "" {
			continue
		}
		n, ok := r.labels[c.Label]
		if !ok {
			return api.ErrDangling
		}
		n.needed = true
	}
	if p.Kind != api.PartPath {
		return api.OK
	}
	n, ok := r.labels[p.Text]
	if !ok {
		return api.ErrDangling
	}
	if n.path == "" {
		n.path = tree.Path(r.tree, n.index)
	}
	return api.OK
}

// assign gives phandles to the nodes that need one and have none.
func (r *resolver) assign() (api.Position, api.Errno) {
	free := 1
	for _, n := range r.nodes {
		if !n.needed || n.phandle > 0 {
			continue
		}
		if len(n.properties) >= api.MaxProperties {
			return api.Position{}, api.ErrLimit
		}
		for r.taken[free] {
			free++
		}
		r.take(n, free)
		cell := api.Part{Kind: api.PartCells, Cells: []api.Cell{{Value: free}}}
		n.properties[phandleName] = api.Definition{Name: phandleName, Parts: []api.Part{cell}}
	}
	return api.Position{}, api.OK
}

// values puts the properties into the tree.
func (r *resolver) values() (api.Position, api.Errno) {
	return r.visit(func(n *node, d api.Definition) api.Errno {
		value, e := r.value(d.Parts)
		if e != api.OK {
			return e
		}
		l := &r.tree.Nodes[n.index].Properties
		*l = append(*l, api.Property{Name: d.Name, Value: value})
		return api.OK
	})
}

// value returns what parts say, one after the other.
func (r *resolver) value(l []api.Part) (string, api.Errno) {
	var out []byte
	for _, p := range l {
		out = append(out, r.bytes(p)...)
		if len(out) > api.MaxValue {
			return "", api.ErrLimit
		}
	}
	return string(out), api.OK
}
