package address

import (
	"slices"

	"bringup/api"
	"bringup/print"
)

// bus is what the properties of a node say of addresses: its cells, its regions, and how it translates those of its children: each to itself, or by windows.
type bus struct {
	address, size int
	regions       []api.Region
	same          bool
	windows       []window
}

// window is an element of 'ranges': the addresses of the children, and the address of the parent that the first one of them is translated to.
type window struct {
	child  api.Region
	parent int
}

// newBus reads a node whose parent has been read; that of the root does not matter.
func newBus(n api.Node, parent bus) (bus, api.Errno) {
	address, size, e := cells(n)
	if e != api.OK {
		return bus{}, e
	}
	out := bus{address: address, size: size}
	if n.Parent < 0 {
		return out, api.OK
	}
	if out.regions, e = regions(n, parent.address, parent.size); e != api.OK {
		return bus{}, e
	}
	value, ok := valueOf(n, "ranges")
	out.same = ok && value == ""
	out.windows, e = windows(value, address, parent.address, size)
	return out, e
}

// cells returns how many cells the addresses and the sizes of a node have.
func cells(n api.Node) (address, size int, e api.Errno) {
	address, ok := count(n, "#address-cells")
	size, also := count(n, "#size-cells")
	if !ok || !also {
		return 0, 0, api.ErrCells
	}
	return address, size, api.OK
}

// count returns a number of cells that a property says, and whether it says one.
func count(n api.Node, name string) (int, bool) {
	value, ok := valueOf(n, name)
	if !ok {
		return 1, true
	}
	l, ok := print.Cells(value)
	if !ok || len(l) != 1 || l[0] != 1 && l[0] != 2 {
		return 0, false
	}
	return l[0], true
}

// valueOf returns the value of a property of a node, and whether there is one.
func valueOf(n api.Node, name string) (string, bool) {
	// tree.Value would check the whole tree again for each property.
	i := slices.IndexFunc(n.Properties, func(p api.Property) bool { return p.Name == name })
	if i < 0 {
		return "", false
	}
	return n.Properties[i].Value, true
}

// regions returns the regions of a node for the cells of its parent.
func regions(n api.Node, address, size int) ([]api.Region, api.Errno) {
	value, _ := valueOf(n, "reg")
	l, e := rows(value, address, size)
	if e != api.OK {
		return nil, e
	}
	var out []api.Region
	for _, row := range l {
		r := api.Region{Base: row[0], Size: row[1]}
		if end(r) > api.MaxAddress {
			return nil, api.ErrRange
		}
		out = append(out, r)
	}
	return out, api.OK
}

// windows returns the windows of a value of 'ranges' for the cells of child addresses, parent addresses and sizes.
func windows(value string, child, parent, size int) ([]window, api.Errno) {
	l, e := rows(value, child, parent, size)
	if e != api.OK {
		return nil, e
	}
	var out []window
	for _, row := range l {
		w := window{child: api.Region{Base: row[0], Size: row[2]}, parent: row[1]}
		if max(end(w.child), w.parent+w.child.Size) > api.MaxAddress {
			return nil, api.ErrRange
		}
		out = append(out, w)
	}
	return out, api.OK
}

// end returns the address behind a region.
func end(r api.Region) int { return r.Base + r.Size }

// through returns a region of a child as a region of the bus, and whether it can be translated.
func (b bus) through(r api.Region) (api.Region, bool) {
	if b.same {
		return r, true
	}
	for _, w := range b.windows {
		if w.contains(r) {
			return api.Region{Base: w.parent + r.Base - w.child.Base, Size: r.Size}, true
		}
	}
	return api.Region{}, false
}

// contains reports whether a window has all addresses of a region.
func (w window) contains(r api.Region) bool {
	// An empty region must have its place within the window, too.
	last := r.Base + max(r.Size, 1)
	return w.child.Base <= r.Base && last <= end(w.child)
}
