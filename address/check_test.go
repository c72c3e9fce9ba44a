package address_test

import (
	"slices"
	"strings"
	"testing"

	"bringup/address"
	"bringup/api"
)

// checks checks what Check returns.
func checks(t *testing.T, x api.Tree, wantNode int, want api.Errno) {
	t.Helper()
	defer unchanged(t, x)()
	if n, e := address.Check(x); n != wantNode || e != want {
		t.Errorf("%s: node %d, error %d, not %d, %d", shown(x), n, e, wantNode, want)
	}
}

// wrong checks the first node that is not as described, and that the other functions that need all of them return its error.
func wrong(t *testing.T, x api.Tree, node int, want api.Errno) {
	t.Helper()
	checks(t, x, node, want)
	failsOverlaps(t, x, want)
	for i := -1; i <= len(x.Nodes); i++ {
		for _, index := range []int{-1, 0, 1} {
			failsTranslate(t, x, i, index, want)
		}
	}
}

// right checks a tree in which all is as described.
func right(t *testing.T, x api.Tree) {
	t.Helper()
	checks(t, x, 0, api.OK)
}

// three returns the tree of a root, a bus and a node below it with some properties each.
func three(a, b, c []api.Property) api.Tree {
	return made(root(a...), node(0, "bus", b...), node(1, "dev", c...))
}

func with(l ...api.Property) []api.Property { return l }

func TestRightTrees(t *testing.T) {
	right(t, made(root()))
	right(t, three(nil, nil, nil))
	right(t, three(nil, with(ranges()), with(reg(16, 4))))
	right(t, three(with(addresses(2), sizes(2)), with(ranges(0, 0, 4096, 256), reg(0, 1, 0, 2)), with(reg(16, 4), ranges(0, 0, 1))))
	right(t, three(with(addresses(1), sizes(2)), with(addresses(2), sizes(1), ranges(0, 1, 2, 3, 4, 5, 6, 7), reg(1, 0, 2)), with(reg(0, 16, 4), ranges(1, 0, 2, 3), property("status", "?"))))
	right(t, built(t, "/ { bus { ranges = <0 0x1000 0x100>; dev@10 { reg = <0x10 4>; }; }; };"))
}

func TestCellsOfEachNode(t *testing.T) {
	for _, value := range wrongCells() {
		for _, name := range []string{"#address-cells", "#size-cells"} {
			p := with(property(name, value))
			wrong(t, three(p, nil, nil), 0, api.ErrCells)
			wrong(t, three(nil, p, nil), 1, api.ErrCells)
			wrong(t, three(nil, nil, p), 2, api.ErrCells)
			wrong(t, three(nil, p, p), 1, api.ErrCells)
			wrong(t, three(p, p, p), 0, api.ErrCells)
		}
	}
}

func TestRootWithRegAndRanges(t *testing.T) {
	for _, value := range []string{"", "?", cells(1), cells(1, 2), cells(1, 2, 3), cells(0xffffffff, 0xffffffff, 0xffffffff), strings.Repeat("\xff", api.MaxValue)} {
		for _, name := range []string{"reg", "ranges"} {
			right(t, three(with(property(name, value)), nil, nil))
			right(t, three(with(property(name, value), addresses(2), sizes(2)), nil, with(reg(1, 2))))
			wrong(t, three(with(property(name, value), addresses(3)), nil, nil), 0, api.ErrCells)
		}
	}
	// A bus is one below the root as well, and one without children.
	wrong(t, three(with(ranges(1)), with(ranges(1)), nil), 1, api.ErrCells)
	wrong(t, three(with(ranges(1)), nil, with(ranges(1))), 2, api.ErrCells)
	wrong(t, made(root(), node(0, "a", property("ranges", "?"))), 1, api.ErrCells)
}

// TestBytesOfRanges checks all numbers of bytes for all cells of a node and of its parent.
func TestBytesOfRanges(t *testing.T) {
	for i := range 16 {
		parent := with(addresses(uint32(1+i&1)), sizes(uint32(1+i>>1&1)))
		width := 4 * (3 + i&1 + i>>2&1 + i>>3&1)
		for n := range api.MaxValue + 1 {
			l := with(addresses(uint32(1+i>>2&1)), sizes(uint32(1+i>>3&1)), property("ranges", strings.Repeat("\x00", n)))
			for at, x := range []api.Tree{0: three(parent, l, nil), 1: three(nil, parent, l)} {
				if n%width == 0 {
					right(t, x)
				} else {
					checks(t, x, at+1, api.ErrCells)
				}
			}
		}
	}
}

// TestNumbersOfRanges checks each of the three numbers of an element of 'ranges' at the limits.
func TestNumbersOfRanges(t *testing.T) {
	in := func(l ...uint64) api.Tree {
		var out []uint32
		for _, n := range l {
			out = append(out, two(n)...)
		}
		return three(with(addresses(2)), with(addresses(2), sizes(2), ranges(out...)), nil)
	}
	for _, child := range ends() {
		for _, parent := range ends() {
			for _, size := range ends() {
				x := in(child, parent, size)
				if max(child, parent, size) <= most && max(child, parent)+size <= most {
					right(t, x)
				} else {
					checks(t, x, 1, api.ErrRange)
				}
			}
		}
	}
	for _, l := range [][]uint64{{most, most, 0}, {most - 1, 0, 1}, {0, most - 1, 1}, {most - 1, most - 1, 1}, {0, 0, most}} {
		right(t, in(l...))
		right(t, in(append(slices.Clone(l), l...)...))
	}
	for _, l := range [][]uint64{{most, 0, 1}, {0, most, 1}, {1, 0, most}, {0, 1, most}, {most + 1, 0, 0}, {0, most + 1, 0}, {0, 0, most + 1}, {1 << 63, 0, 1 << 63}, {0, 1<<64 - 1, 1}, {1<<64 - 1, 1<<64 - 1, 1<<64 - 1}} {
		wrong(t, in(l...), 1, api.ErrRange)
		wrong(t, in(append([]uint64{1, 2, 3}, l...)...), 1, api.ErrRange)
		wrong(t, in(append(slices.Clone(l), 1, 2, 3)...), 1, api.ErrRange)
	}
	// With single cells nothing is too great.
	right(t, three(nil, with(ranges(slices.Repeat([]uint32{0xffffffff}, 60)...)), nil))
}

// TestWidthsOfRanges checks that child addresses and sizes have the cells of the node, and parent addresses those of its parent.
func TestWidthsOfRanges(t *testing.T) {
	great := uint32(1 << 30)
	for _, c := range []struct {
		parent, child, size uint32
		cells               []uint32
		great               []int
	}{
		{1, 1, 1, []uint32{5, 6, 7}, nil},
		{1, 2, 1, []uint32{0, 5, 6, 7}, []int{0}},
		{2, 1, 1, []uint32{5, 0, 6, 7}, []int{1}},
		{1, 1, 2, []uint32{5, 6, 0, 7}, []int{2}},
		{2, 2, 1, []uint32{0, 5, 0, 6, 7}, []int{0, 2}},
		{1, 2, 2, []uint32{0, 5, 6, 0, 7}, []int{0, 3}},
		{2, 1, 2, []uint32{5, 0, 6, 0, 7}, []int{1, 3}},
		{2, 2, 2, []uint32{0, 5, 0, 6, 0, 7}, []int{0, 2, 4}},
	} {
		for i := range c.cells {
			l := slices.Clone(c.cells)
			l[i] = great
			// The sizes of the parent do not matter here.
			x := three(with(addresses(c.parent), sizes(3-c.size)), with(addresses(c.child), sizes(c.size), ranges(l...)), nil)
			if slices.Contains(c.great, i) {
				checks(t, x, 1, api.ErrRange)
			} else {
				right(t, x)
			}
		}
	}
}

// faults are the five things that can be wrong with a node below one with two cells each, in their order.
func faults() []struct {
	property api.Property
	e        api.Errno
} {
	return []struct {
		property api.Property
		e        api.Errno
	}{
		{addresses(3), api.ErrCells},
		{reg(1, 2, 3), api.ErrCells},
		{reg(1<<30, 0, 0, 0), api.ErrRange},
		{ranges(1, 2, 3, 4, 5, 6, 7), api.ErrCells},
		{ranges(slices.Repeat([]uint32{1 << 30}, 60)...), api.ErrRange},
	}
}

func TestEachFault(t *testing.T) {
	wide := with(addresses(2), sizes(2))
	for _, f := range faults() {
		wrong(t, three(wide, with(f.property), nil), 1, f.e)
		wrong(t, made(wideRoot(), node(0, "a", wide...), node(0, "b", f.property), node(0, "c")), 2, f.e)
		wrong(t, three(nil, wide, with(f.property)), 2, f.e)
	}
}

// wideRoot returns a root with two cells each.
func wideRoot() api.Node { return root(addresses(2), sizes(2)) }

// TestOrderOfFaults checks a node with two faults: the one that comes first counts.
func TestOrderOfFaults(t *testing.T) {
	l := faults()
	for _, f := range l[1:] {
		wrong(t, made(wideRoot(), node(0, "a", l[0].property, f.property)), 1, l[0].e)
		wrong(t, made(wideRoot(), node(0, "a", sizes(0), f.property)), 1, api.ErrCells)
	}
	for _, f := range l[3:] {
		wrong(t, made(wideRoot(), node(0, "a", l[1].property, f.property)), 1, api.ErrCells)
		wrong(t, made(wideRoot(), node(0, "a", l[2].property, f.property)), 1, api.ErrRange)
	}
	// The number of bytes comes before what they say.
	wrong(t, made(wideRoot(), node(0, "a", reg(1<<30, 0, 0, 0, 1))), 1, api.ErrCells)
	wrong(t, made(wideRoot(), node(0, "a", ranges(1<<30, 1<<30, 1<<30, 1<<30, 1<<30))), 1, api.ErrCells)
	wrong(t, made(wideRoot(), node(0, "a", reg(1, 2, 3, 4), l[4].property)), 1, api.ErrRange)
	wrong(t, made(wideRoot(), node(0, "a", reg(1, 2, 3, 4), l[3].property)), 1, api.ErrCells)
}

// TestFirstNode checks trees in which several nodes have faults: the first node counts, whatever its fault is.
func TestFirstNode(t *testing.T) {
	for _, f := range faults() {
		for _, g := range faults() {
			wrong(t, made(wideRoot(), node(0, "a", f.property), node(0, "b", g.property)), 1, f.e)
			wrong(t, made(wideRoot(), node(0, "a"), node(0, "b", f.property), node(0, "c"), node(0, "d", g.property)), 2, f.e)
		}
	}
	// The parent of a node comes before it.
	for _, f := range faults()[1:] {
		bus := node(0, "a", addresses(2), sizes(2), f.property)
		for _, g := range faults() {
			wrong(t, made(wideRoot(), bus, node(1, "b", g.property)), 1, f.e)
		}
	}
	wrong(t, made(root(sizes(3)), node(0, "a", reg(1))), 0, api.ErrCells)
	wrong(t, made(root(), node(0, "a", sizes(3)), node(1, "b", reg(1))), 1, api.ErrCells)
	wrong(t, made(root(), node(0, "a"), node(1, "b", reg(1)), node(0, "c", sizes(3))), 2, api.ErrCells)
}
