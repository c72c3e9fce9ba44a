package address_test

import (
	"slices"
	"strings"
	"testing"

	"bringup/address"
	"bringup/api"
)

// translates checks what a region of a node is translated to.
func translates(t *testing.T, x api.Tree, node, index int, want api.Region) {
	t.Helper()
	defer unchanged(t, x)()
	if got, e := address.Translate(x, node, index); got != want || e != api.OK {
		t.Errorf("%s: the region %d of %d is translated to %v, error %d, not %v", shown(x), index, node, got, e, want)
	}
}

// failsTranslate checks the error of Translate.
func failsTranslate(t *testing.T, x api.Tree, node, index int, want api.Errno) {
	t.Helper()
	defer unchanged(t, x)()
	if got, e := address.Translate(x, node, index); got != (api.Region{}) || e != want {
		t.Errorf("%s: the region %d of %d is translated to %v, error %d, not %d", shown(x), index, node, got, e, want)
	}
}

// behind returns the tree of a bus with some ranges, and a node below it with some regions.
func behind(windows, regions []uint32) api.Tree {
	return three(nil, with(ranges(windows...)), with(reg(regions...)))
}

func list(l ...uint32) []uint32 { return l }

func TestExample(t *testing.T) {
	translates(t, behind(list(0, 4096, 256), list(16, 4)), 2, 0, region(4112, 4))
	x := built(t, "/ { bus { ranges = <0 4096 256>; dev { reg = <16 4>; }; }; };")
	translates(t, x, 2, 0, region(4112, 4))
}

func TestChildrenOfTheRoot(t *testing.T) {
	x := made(root(ranges(0, 100, 1)), node(0, "a", reg(0, 1, 5, 6, 7, 0)), node(0, "b", reg(3, 4), ranges(3, 9, 9)))
	translates(t, x, 1, 0, region(0, 1))
	translates(t, x, 1, 1, region(5, 6))
	translates(t, x, 1, 2, region(7, 0))
	translates(t, x, 2, 0, region(3, 4))
	x = made(root(addresses(2), sizes(2)), node(0, "a", reg(1<<30-1, 0xffffffff, 0, 0, 0, 1, 1<<30-1, 0xfffffffe)))
	translates(t, x, 1, 0, region(most, 0))
	translates(t, x, 1, 1, region(1, most-1))
}

func TestRegionsWithinAnElement(t *testing.T) {
	x := behind(list(100, 1000, 10), list(100, 10, 100, 1, 104, 3, 109, 1, 108, 2, 101, 9))
	for i, want := range []api.Region{region(1000, 10), region(1000, 1), region(1004, 3), region(1009, 1), region(1008, 2), region(1001, 9)} {
		translates(t, x, 2, i, want)
	}
	for _, l := range [][]uint32{{99, 1}, {99, 2}, {99, 11}, {99, 12}, {100, 11}, {109, 2}, {110, 1}, {110, 10}, {111, 1}, {0, 1}, {0, 100}, {0, 1000}, {1000, 1}, {1000, 10}, {0xffffffff, 1}, {0, 0xffffffff}} {
		failsTranslate(t, behind(list(100, 1000, 10), l), 2, 0, api.ErrOutside)
	}
	// An element may translate to lesser addresses, and to the same ones.
	translates(t, behind(list(1000, 100, 10), list(1003, 4)), 2, 0, region(103, 4))
	translates(t, behind(list(1000, 0, 10), list(1009, 1)), 2, 0, region(9, 1))
	translates(t, behind(list(7, 7, 7), list(7, 7)), 2, 0, region(7, 7))
	translates(t, behind(list(0, 0xffffffff, 0xffffffff), list(0xfffffffe, 1)), 2, 0, region(0xffffffff+0xfffffffe, 1))
}

func TestEmptyRegions(t *testing.T) {
	windows := list(100, 1000, 10)
	translates(t, behind(windows, list(100, 0)), 2, 0, region(1000, 0))
	translates(t, behind(windows, list(105, 0)), 2, 0, region(1005, 0))
	translates(t, behind(windows, list(109, 0)), 2, 0, region(1009, 0))
	for _, base := range []uint32{0, 99, 110, 111, 1000} {
		failsTranslate(t, behind(windows, list(base, 0)), 2, 0, api.ErrOutside)
	}
	// An element of no addresses contains no region, not even an empty one.
	for _, l := range [][]uint32{{100, 0}, {100, 1}, {99, 0}, {99, 2}, {101, 0}} {
		failsTranslate(t, behind(list(100, 1000, 0), l), 2, 0, api.ErrOutside)
	}
	// Where two elements touch, an empty region belongs to the one that begins there.
	translates(t, behind(list(90, 500, 10, 100, 1000, 10), list(100, 0)), 2, 0, region(1000, 0))
	translates(t, behind(list(100, 1000, 10, 90, 500, 10), list(100, 0)), 2, 0, region(1000, 0))
	// At the greatest address only an empty value translates one.
	wide := with(addresses(2), sizes(2))
	last := with(reg(append(two(most), 0, 0)...))
	translates(t, three(wide, slices.Concat(wide, with(ranges())), last), 2, 0, region(most, 0))
	whole := slices.Concat(two(0), two(0), two(most))
	failsTranslate(t, three(wide, slices.Concat(wide, with(ranges(whole...))), last), 2, 0, api.ErrOutside)
	translates(t, three(wide, slices.Concat(wide, with(ranges(whole...))), with(reg(append(two(most-1), 0, 0)...))), 2, 0, region(most-1, 0))
}

func TestSeveralElements(t *testing.T) {
	windows := list(0, 1000, 10, 10, 2000, 10, 5, 3000, 10, 0, 4000, 100)
	for _, c := range []struct{ base, size, want int }{
		{0, 10, 1000}, {5, 5, 1005}, {9, 1, 1009}, {10, 10, 2000}, {14, 1, 2004}, {19, 1, 2009},
		// Across two elements that touch: the first one that contains all of it counts.
		{9, 2, 3004}, {5, 10, 3000}, {8, 6, 3003}, {5, 11, 4005}, {4, 10, 4004}, {0, 11, 4000}, {0, 20, 4000}, {19, 2, 4019}, {0, 100, 4000}, {99, 1, 4099}, {9, 0, 1009}, {10, 0, 2000}, {20, 0, 4020},
	} {
		translates(t, behind(windows, list(uint32(c.base), uint32(c.size))), 2, 0, region(c.want, c.size))
	}
	failsTranslate(t, behind(windows, list(0, 101)), 2, 0, api.ErrOutside)
	failsTranslate(t, behind(windows, list(100, 0)), 2, 0, api.ErrOutside)
	// Without such an element nothing is put together, not even if the elements touch on both sides.
	windows = list(0, 1000, 10, 10, 1010, 10)
	failsTranslate(t, behind(windows, list(9, 2)), 2, 0, api.ErrOutside)
	failsTranslate(t, behind(windows, list(0, 20)), 2, 0, api.ErrOutside)
	translates(t, behind(windows, list(10, 10)), 2, 0, region(1010, 10))
	// Equal elements: the first one counts; one without addresses does not.
	translates(t, behind(list(0, 1000, 10, 0, 2000, 10), list(3, 4)), 2, 0, region(1003, 4))
	translates(t, behind(list(0, 2000, 10, 0, 1000, 10), list(3, 4)), 2, 0, region(2003, 4))
	translates(t, behind(list(3, 1000, 0, 0, 2000, 10), list(3, 0)), 2, 0, region(2003, 0))
	// As many elements as there is room for.
	var many []uint32
	for i := range uint32(21) {
		many = append(many, 10*i, 1000-10*i, 10)
	}
	for i := range 21 {
		translates(t, behind(many, list(uint32(10*i+2), 8)), 2, 0, region(1000-10*i+2, 8))
	}
}

func TestRangesThatAreMissingOrEmpty(t *testing.T) {
	for _, l := range [][]uint32{{0, 0}, {1, 0}, {16, 4}, {0xffffffff, 0xffffffff}} {
		want := region(int(l[0]), int(l[1]))
		translates(t, three(nil, with(ranges()), with(reg(l...))), 2, 0, want)
		failsTranslate(t, three(nil, nil, with(reg(l...))), 2, 0, api.ErrOutside)
		failsTranslate(t, three(with(ranges()), nil, with(reg(l...))), 2, 0, api.ErrOutside)
		failsTranslate(t, three(nil, with(property("Ranges", ""), property("range", ""), property("rangess", "")), with(reg(l...), ranges())), 2, 0, api.ErrOutside)
		// The own 'ranges' of a node do not matter for its regions.
		translates(t, three(nil, with(ranges()), with(reg(l...), ranges(0, 500, 0xffffffff))), 2, 0, want)
	}
	// The cells of the node and of its parent need not be equal, even if addresses are more than those of the parent can say.
	translates(t, three(nil, with(addresses(2), sizes(2), ranges()), with(reg(1, 2, 3, 4))), 2, 0, region(1<<32+2, 3<<32+4))
	translates(t, three(with(addresses(2), sizes(2)), with(ranges()), with(reg(1, 2))), 2, 0, region(1, 2))
}

func TestWidthsOfTranslations(t *testing.T) {
	for _, c := range []struct {
		parent, child, size uint32
		cells               []uint32
	}{
		{1, 1, 1, list(16, 4096, 256)},
		{1, 2, 1, list(0, 16, 4096, 256)},
		{2, 1, 1, list(16, 0, 4096, 256)},
		{1, 1, 2, list(16, 4096, 0, 256)},
		{2, 2, 1, list(0, 16, 0, 4096, 256)},
		{1, 2, 2, list(0, 16, 4096, 0, 256)},
		{2, 1, 2, list(16, 0, 4096, 0, 256)},
		{2, 2, 2, list(0, 16, 0, 4096, 0, 256)},
	} {
		r := slices.Concat(two(20)[2-c.child:], two(4)[2-c.size:])
		x := three(with(addresses(c.parent), sizes(3-c.size)), with(addresses(c.child), sizes(c.size), ranges(c.cells...)), with(reg(r...), addresses(3-c.child), sizes(3-c.size)))
		translates(t, x, 2, 0, region(4100, 4))
	}
	// The more significant cell is the first one.
	x := three(with(addresses(2)), with(addresses(2), sizes(2), ranges(1, 0, 2, 0, 3, 0)), with(reg(2, 5, 1, 0)))
	translates(t, x, 2, 0, region(3<<32+5, 1<<32))
	failsTranslate(t, three(with(addresses(2)), with(addresses(2), sizes(2), ranges(1, 0, 2, 0, 3, 0)), with(reg(2, 5, 2, 0))), 2, 0, api.ErrOutside)
	// Up to the greatest address, on both sides.
	x = three(with(addresses(2)), with(addresses(2), sizes(2), ranges(slices.Concat(two(most-10), two(0), two(10))...)), with(reg(slices.Concat(two(most-1), two(1), two(most-10), two(10))...)))
	translates(t, x, 2, 0, region(9, 1))
	translates(t, x, 2, 1, region(0, 10))
	x = three(with(addresses(2)), with(addresses(2), sizes(2), ranges(slices.Concat(two(0), two(most-10), two(10))...)), with(reg(slices.Concat(two(9), two(1), two(0), two(10))...)))
	translates(t, x, 2, 0, region(most-1, 1))
	translates(t, x, 2, 1, region(most-10, 10))
}

// TestBusesBelowBuses translates through several buses.
func TestBusesBelowBuses(t *testing.T) {
	x := made(root(), node(0, "a", ranges(100, 1000, 100)), node(1, "b", ranges(10, 150, 20, 30, 20, 10), reg(120, 5)), node(2, "c", ranges(), reg(12, 1, 25, 5)), node(3, "d", reg(15, 2, 29, 1, 30, 1, 28, 3)), node(0, "e", reg(15, 2)))
	translates(t, x, 2, 0, region(1020, 5))
	translates(t, x, 3, 0, region(1052, 1))
	translates(t, x, 3, 1, region(1065, 5))
	translates(t, x, 4, 0, region(1055, 2))
	translates(t, x, 4, 1, region(1069, 1))
	// The region 30 is translated to 20, and that one by no element of the next bus.
	failsTranslate(t, x, 4, 2, api.ErrOutside)
	failsTranslate(t, x, 4, 3, api.ErrOutside)
	translates(t, x, 5, 0, region(15, 2))
	// An element that is chosen is chosen, even if another one would go on.
	x = made(root(), node(0, "a", ranges(100, 1000, 100)), node(1, "b", ranges(0, 0, 10, 0, 100, 10)), node(2, "c", reg(1, 1)))
	failsTranslate(t, x, 3, 0, api.ErrOutside)
	// One bus that translates nothing is enough, wherever it is.
	for missing := range api.MaxDepth {
		x := made(root())
		for i := range api.MaxDepth {
			l := with(reg(0, 1))
			if i != missing {
				l = append(l, ranges(0, 1<<i, 1000))
			}
			x.Nodes = append(x.Nodes, node(i, "n", l...))
		}
		for i := 1; i <= api.MaxDepth; i++ {
			if i > missing+1 {
				failsTranslate(t, x, i, 0, api.ErrOutside)
			} else {
				translates(t, x, i, 0, region(1<<(i-1)-1, 1))
			}
		}
	}
}

func TestUnknownRegions(t *testing.T) {
	x := made(root(reg(1, 2)), node(0, "a", reg(1, 2, 3, 4)), node(0, "b"), node(0, "c", reg()), node(3, "d", reg(1, 2)))
	for _, i := range []int{-1 << 63, -1, 2, 3, 1<<63 - 1} {
		failsTranslate(t, x, 1, i, api.ErrUnknown)
	}
	for _, i := range []int{-1, 0, 1} {
		for _, n := range []int{-1 << 63, -1, 0, 2, 3, 5, 6, api.MaxNodes, 1<<63 - 1} {
			failsTranslate(t, x, n, i, api.ErrUnknown)
		}
	}
	// A region that does not exist is unknown, even where nothing can be translated.
	failsTranslate(t, x, 4, 0, api.ErrOutside)
	failsTranslate(t, x, 4, 1, api.ErrUnknown)
	failsTranslate(t, x, 4, -1, api.ErrUnknown)
}

// TestErrorsOfOtherNodes checks that the whole tree must be as described before anything is translated.
func TestErrorsOfOtherNodes(t *testing.T) {
	for _, f := range faults() {
		x := made(wideRoot(), node(0, "a", reg(0, 1, 0, 2)), node(0, "b", f.property))
		failsTranslate(t, x, 1, 0, f.e)
		failsTranslate(t, x, 1, 1, f.e)
		failsTranslate(t, x, 9, 0, f.e)
	}
	long := strings.Repeat("\x00", 12)
	failsTranslate(t, made(root(), node(0, "a", property("reg", long))), 1, 0, api.ErrCells)
	failsTranslate(t, made(root(), node(0, "a"), node(1, "b", property("reg", long))), 2, 0, api.ErrCells)
}
