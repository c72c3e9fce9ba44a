package address_test

import (
	"slices"
	"strconv"
	"testing"

	"bringup/address"
	"bringup/api"
)

// overlap returns an overlap of two places.
func overlap(node, index, other, at int) api.Overlap {
	return api.Overlap{First: api.Place{Node: node, Index: index}, Second: api.Place{Node: other, Index: at}}
}

// overlaps checks what overlaps in a tree, and that the list is new memory.
func overlaps(t *testing.T, x api.Tree, want ...api.Overlap) {
	t.Helper()
	defer unchanged(t, x)()
	got, e := address.Overlaps(x)
	if e != api.OK || !slices.Equal(got, want) {
		t.Errorf("%s: %d overlaps %.20v, error %d, not %d: %.20v", shown(x), len(got), got, e, len(want), want)
	}
	for i := range got {
		got[i] = overlap(7, 7, 7, 7)
	}
	if again, _ := address.Overlaps(x); !slices.Equal(again, want) {
		t.Errorf("%s: the overlaps have become %.20v", shown(x), again)
	}
}

// failsOverlaps checks the error of Overlaps.
func failsOverlaps(t *testing.T, x api.Tree, want api.Errno) {
	t.Helper()
	defer unchanged(t, x)()
	if got, e := address.Overlaps(x); e != want || len(got) != 0 {
		t.Errorf("%s: overlaps %.20v, error %d, not %d", shown(x), got, e, want)
	}
}

// beside returns the tree of two nodes below the root with some regions each.
func beside(a, b []uint32) api.Tree {
	return made(root(), node(0, "a", reg(a...)), node(0, "b", reg(b...)))
}

func TestOverlapsOfTwoRegions(t *testing.T) {
	for _, c := range []struct {
		a, b [2]uint32
		want bool
	}{
		{[2]uint32{10, 10}, [2]uint32{20, 10}, false}, // they touch
		{[2]uint32{10, 10}, [2]uint32{19, 10}, true},  // one address in common
		{[2]uint32{10, 10}, [2]uint32{19, 1}, true},
		{[2]uint32{10, 10}, [2]uint32{10, 1}, true},
		{[2]uint32{10, 10}, [2]uint32{9, 1}, false},
		{[2]uint32{10, 10}, [2]uint32{20, 1}, false},
		{[2]uint32{10, 10}, [2]uint32{21, 1}, false},
		{[2]uint32{10, 10}, [2]uint32{10, 10}, true}, // they are equal
		{[2]uint32{10, 1}, [2]uint32{10, 1}, true},
		{[2]uint32{10, 10}, [2]uint32{12, 5}, true}, // one contains the other
		{[2]uint32{10, 10}, [2]uint32{5, 50}, true},
		{[2]uint32{10, 10}, [2]uint32{5, 10}, true},
		{[2]uint32{10, 10}, [2]uint32{0, 10}, false},
		{[2]uint32{10, 10}, [2]uint32{0, 11}, true},
		{[2]uint32{10, 10}, [2]uint32{100, 10}, false},
		{[2]uint32{10, 10}, [2]uint32{15, 0}, false}, // one is empty
		{[2]uint32{10, 10}, [2]uint32{10, 0}, false},
		{[2]uint32{10, 10}, [2]uint32{20, 0}, false},
		{[2]uint32{10, 0}, [2]uint32{10, 0}, false},
		{[2]uint32{0, 0xffffffff}, [2]uint32{0xffffffff, 1}, false},
		{[2]uint32{0, 0xffffffff}, [2]uint32{0xfffffffe, 2}, true},
		{[2]uint32{0xffffffff, 0xffffffff}, [2]uint32{0xffffffff, 1}, true},
	} {
		var want []api.Overlap
		if c.want {
			want = append(want, overlap(1, 0, 2, 0))
		}
		overlaps(t, beside(c.a[:], c.b[:]), want...)
		overlaps(t, beside(c.b[:], c.a[:]), want...)
	}
}

func TestGreatRegions(t *testing.T) {
	x := made(wideRoot(), node(0, "a", reg(slices.Concat(two(0), two(most), two(most), two(0), two(most-1), two(1))...)), node(0, "b", reg(slices.Concat(two(most-1), two(1), two(1), two(most-1), two(0), two(1))...)))
	overlaps(t, x, overlap(1, 0, 2, 0), overlap(1, 0, 2, 1), overlap(1, 0, 2, 2), overlap(1, 2, 2, 0), overlap(1, 2, 2, 1))
}

func TestNoOverlaps(t *testing.T) {
	overlaps(t, made(root()))
	overlaps(t, made(root(reg(1, 2, 1, 2))))
	overlaps(t, made(root(reg(1, 2)), node(0, "a", reg(1, 2))))
	overlaps(t, made(root(), node(0, "a", reg(1, 2)), node(0, "b")))
	// The same node.
	overlaps(t, made(root(), node(0, "a", reg(1, 2, 1, 2, 2, 1))))
}

func TestNodesBelowEachOther(t *testing.T) {
	l := reg(1, 5)
	overlaps(t, made(root(), node(0, "a", l, ranges()), node(1, "b", l)))
	overlaps(t, made(root(), node(0, "a", l, ranges()), node(1, "b", ranges()), node(2, "c", l)))
	overlaps(t, made(root(), node(0, "a", l, ranges()), node(1, "b", l, ranges()), node(2, "c", l, ranges()), node(3, "d", l)))
	// Brothers, and those that are below others, are not.
	overlaps(t, made(root(), node(0, "a", l, ranges()), node(1, "b", l), node(1, "c", l)), overlap(2, 0, 3, 0))
	overlaps(t, made(root(), node(0, "a", l, ranges()), node(1, "b", l), node(0, "c", l)), overlap(1, 0, 3, 0), overlap(2, 0, 3, 0))
	overlaps(t, made(root(), node(0, "a", l), node(0, "b", l, ranges()), node(2, "c", l)), overlap(1, 0, 2, 0), overlap(1, 0, 3, 0))
	overlaps(t, made(root(), node(0, "a", ranges()), node(1, "b", l, ranges()), node(2, "c", l), node(1, "d", ranges()), node(4, "e", l), node(1, "f", l)),
		overlap(2, 0, 5, 0), overlap(2, 0, 6, 0), overlap(3, 0, 5, 0), overlap(3, 0, 6, 0), overlap(5, 0, 6, 0))
}

func TestOverlapsOfTranslatedRegions(t *testing.T) {
	// Where they are translated to counts, and not what 'reg' says.
	x := made(root(), node(0, "a", ranges(0, 1000, 100)), node(1, "b", reg(10, 10)), node(0, "c", ranges(0, 2000, 100)), node(3, "d", reg(10, 10)), node(0, "e", reg(10, 10)), node(0, "f", reg(1019, 1000)))
	overlaps(t, x, overlap(2, 0, 6, 0), overlap(4, 0, 6, 0))
	// Two buses lead to the same addresses.
	x = made(root(), node(0, "a", ranges(0, 1000, 100)), node(1, "b", reg(10, 10)), node(0, "c", ranges(100, 1000, 100)), node(3, "d", reg(119, 5, 120, 5)))
	overlaps(t, x, overlap(2, 0, 4, 0))
	// Two elements of one bus do.
	x = made(root(), node(0, "a", ranges(0, 1000, 10, 10, 1000, 10)), node(1, "b", reg(5, 2)), node(1, "c", reg(15, 2)))
	overlaps(t, x, overlap(2, 0, 3, 0))
}

func TestRegionsThatCannotBeTranslated(t *testing.T) {
	// Nothing of a bus without 'ranges', though its own region is there.
	x := made(root(), node(0, "a", reg(0, 100)), node(1, "b", reg(5, 5)), node(1, "c", reg(5, 5)), node(0, "d", reg(5, 5)))
	overlaps(t, x, overlap(1, 0, 4, 0))
	// Some regions of a node can be translated, and others cannot.
	x = made(root(), node(0, "a", ranges(10, 10, 10)), node(1, "b", reg(5, 5, 10, 5, 15, 5, 20, 5)), node(0, "c", reg(0, 100)))
	overlaps(t, x, overlap(2, 1, 3, 0), overlap(2, 2, 3, 0))
	x = made(root(), node(0, "a", reg(0, 100)), node(0, "b", ranges(10, 10, 10)), node(2, "c", reg(20, 5, 10, 5, 19, 2, 15, 5)))
	overlaps(t, x, overlap(1, 0, 3, 1), overlap(1, 0, 3, 3))
}

func TestOrderOfOverlaps(t *testing.T) {
	x := made(root(), node(0, "a", reg(0, 10, 5, 10)), node(0, "b", reg(9, 2, 0, 1, 14, 1)), node(0, "c", reg(100, 1, 9, 1)))
	overlaps(t, x, overlap(1, 0, 2, 0), overlap(1, 0, 2, 1), overlap(1, 0, 3, 1), overlap(1, 1, 2, 0), overlap(1, 1, 2, 2), overlap(1, 1, 3, 1), overlap(2, 0, 3, 1))
	var want []api.Overlap
	x = made(root())
	for i := 1; i < 6; i++ {
		x.Nodes = append(x.Nodes, node(0, "n"+strconv.Itoa(i), reg(1, 2, 0, 2, 1, 1)))
		for index := range 3 {
			for j := i + 1; j < 6; j++ {
				want = append(want, overlap(i, index, j, 0), overlap(i, index, j, 1), overlap(i, index, j, 2))
			}
		}
	}
	overlaps(t, x, want...)
}

func TestErrorsOfOverlaps(t *testing.T) {
	for _, f := range faults() {
		failsOverlaps(t, made(wideRoot(), node(0, "a", reg(0, 1, 0, 2)), node(0, "b", reg(0, 1, 0, 2)), node(0, "c", f.property)), f.e)
	}
	failsOverlaps(t, made(root(addresses(3))), api.ErrCells)
}

// TestMostOverlaps has as many regions as there is room for, all of them equal.
func TestMostOverlaps(t *testing.T) {
	x := made(root())
	var l []uint32
	for range 32 {
		l = append(l, 5, 5)
	}
	for i := range api.MaxNodes - 1 {
		x.Nodes = append(x.Nodes, node(0, "n"+strconv.Itoa(100+i), reg(l...)))
	}
	got, e := address.Overlaps(x)
	if want := 119 * 118 / 2 * 32 * 32; e != api.OK || len(got) != want {
		t.Fatalf("%d overlaps, error %d, not %d", len(got), e, want)
	}
	for i := range got {
		first, second := got[i].First, got[i].Second
		if first.Node >= second.Node || i > 0 && slices.Compare(places(got[i-1]), places(got[i])) >= 0 {
			t.Fatalf("the overlap %d is %v", i, got[i])
		}
	}
}

// places returns the numbers of an overlap, in the order in which they are compared.
func places(o api.Overlap) []int {
	return []int{o.First.Node, o.First.Index, o.Second.Node, o.Second.Index}
}
