package address_test

import (
	"slices"
	"strconv"
	"strings"
	"testing"

	"bringup/address"
	"bringup/api"
)

// hasRegions checks the regions of a node, and that they are new memory.
func hasRegions(t *testing.T, x api.Tree, node int, want ...api.Region) {
	t.Helper()
	defer unchanged(t, x)()
	got, e := address.Regions(x, node)
	if e != api.OK || !slices.Equal(got, want) {
		t.Errorf("%s: the regions of %d are %v, error %d, not %v", shown(x), node, got, e, want)
	}
	for i := range got {
		got[i] = region(7, 7)
	}
	if again, _ := address.Regions(x, node); !slices.Equal(again, want) {
		t.Errorf("%s: the regions of %d have become %v", shown(x), node, again)
	}
}

// failsRegions checks the error of Regions.
func failsRegions(t *testing.T, x api.Tree, node int, want api.Errno) {
	t.Helper()
	defer unchanged(t, x)()
	if got, e := address.Regions(x, node); e != want || len(got) != 0 {
		t.Errorf("%s: the regions of %d are %v, error %d, not %d", shown(x), node, got, e, want)
	}
}

// below returns the tree of a node whose parent, a child of the root, has so many cells.
func below(address, size uint32, l ...api.Property) api.Tree {
	// The cells of the root and of the node itself do not matter for its regions.
	l = append(l, addresses(3-address), sizes(3-size))
	return made(root(addresses(3-address), sizes(3-size)), node(0, "bus", addresses(address), sizes(size)), node(1, "dev", l...))
}

func TestRegions(t *testing.T) {
	x := below(1, 1, reg(16, 4, 0x20, 0, 0xffffffff, 1))
	hasRegions(t, x, 2, region(16, 4), region(32, 0), region(0xffffffff, 1))
	x = below(2, 1, reg(0, 16, 4, 1, 2, 3))
	hasRegions(t, x, 2, region(16, 4), region(1<<32+2, 3))
	x = below(1, 2, reg(16, 0, 4, 1, 2, 3))
	hasRegions(t, x, 2, region(16, 4), region(1, 2<<32+3))
	x = below(2, 2, reg(0, 16, 0, 4, 1, 2, 3, 4))
	hasRegions(t, x, 2, region(16, 4), region(1<<32+2, 3<<32+4))
	// The order is that of the value, and regions may be equal.
	hasRegions(t, below(1, 1, reg(9, 1, 2, 3, 9, 1, 1, 1)), 2, region(9, 1), region(2, 3), region(9, 1), region(1, 1))
	hasRegions(t, built(t, `/ { dev@10 { reg = <0x10 4>, <1 2>; }; };`), 1, region(16, 4), region(1, 2))
	// Any four bytes are a cell.
	hasRegions(t, below(1, 1, property("reg", "ab\x00\xff\x80\x01\x02~")), 2, region(0x616200ff, 0x8001027e))
}

func TestRegionsWithoutCells(t *testing.T) {
	hasRegions(t, made(root(), node(0, "a", reg(1, 2, 3, 4))), 1, region(1, 2), region(3, 4))
	hasRegions(t, made(root(addresses(2)), node(0, "a", reg(1, 2, 3))), 1, region(1<<32+2, 3))
	hasRegions(t, made(root(sizes(2)), node(0, "a", reg(1, 2, 3))), 1, region(1, 2<<32+3))
	hasRegions(t, made(root(addresses(2), sizes(2)), node(0, "a"), node(1, "b", reg(1, 2, 3, 4))), 2, region(1, 2), region(3, 4))
}

func TestNoRegions(t *testing.T) {
	for _, a := range []uint32{1, 2} {
		for _, s := range []uint32{1, 2} {
			hasRegions(t, below(a, s), 2)
			hasRegions(t, below(a, s, reg()), 2)
			hasRegions(t, below(a, s, property("Reg", "?"), property("re", "?"), property("regs", "?"), property("ranges", "?")), 2)
		}
	}
	for _, p := range []api.Property{reg(), reg(1, 2), reg(1), reg(1, 2, 3), property("reg", "?"), reg(0xffffffff, 0xffffffff, 0xffffffff, 0xffffffff)} {
		hasRegions(t, made(root(p)), 0)
		hasRegions(t, made(root(p, addresses(2), sizes(2))), 0)
		hasRegions(t, made(root(p, addresses(0), sizes(3))), 0)
	}
}

func TestBytesOfReg(t *testing.T) {
	for _, a := range []int{1, 2} {
		for _, s := range []int{1, 2} {
			for n := range api.MaxValue + 1 {
				x := below(uint32(a), uint32(s), property("reg", strings.Repeat("\x00", n)))
				if width := 4 * (a + s); n%width == 0 {
					hasRegions(t, x, 2, make([]api.Region, n/width)...)
					checks(t, x, 0, api.OK)
				} else {
					failsRegions(t, x, 2, api.ErrCells)
					checks(t, x, 2, api.ErrCells)
				}
			}
		}
	}
}

func TestParentsWithWrongCells(t *testing.T) {
	for _, value := range wrongCells() {
		for _, name := range []string{"#address-cells", "#size-cells"} {
			p := property(name, value)
			for _, l := range [][]api.Property{nil, {reg()}, {reg(1, 2)}, {reg(1)}, {property("reg", "?")}} {
				failsRegions(t, made(root(p), node(0, "a", l...)), 1, api.ErrCells)
				failsRegions(t, made(root(), node(0, "a", p), node(1, "b", l...)), 2, api.ErrCells)
			}
			hasRegions(t, made(root(p), node(0, "a"), node(1, "b", reg(1, 2))), 2, region(1, 2))
			hasRegions(t, made(root(), node(0, "a", p, reg(1, 2))), 1, region(1, 2))
			hasRegions(t, made(root(), node(0, "a", reg(1, 2)), node(1, "b", p), node(2, "c", p)), 1, region(1, 2))
			hasRegions(t, made(root(p), node(0, "a")), 0)
		}
	}
}

// two returns the cells of a number.
func two(n uint64) []uint32 { return []uint32{uint32(n >> 32), uint32(n)} }

// ends are numbers at the limits of one and two cells.
func ends() []uint64 {
	return []uint64{0, 1, 2, 1<<31 - 1, 1 << 31, 1<<32 - 1, 1 << 32, 1<<32 + 1, 1<<61 - 1, 1 << 61, most - 1, most, most + 1, most + 2, 1<<63 - 1, 1 << 63, 1<<63 + 1, 1<<64 - 1<<32, 1<<64 - 1}
}

func TestNumbersAndTheirLimit(t *testing.T) {
	for _, base := range ends() {
		for _, size := range ends() {
			for _, l := range [][2]uint32{{2, 2}, {2, 1}, {1, 2}, {1, 1}} {
				b, s := two(base)[2-l[0]:], two(size)[2-l[1]:]
				if len(b) == 1 && b[0] != uint32(base) || len(s) == 1 && s[0] != uint32(size) {
					continue
				}
				good := region(int(base), int(size))
				if len(b) == 1 {
					good.Base = int(b[0])
				}
				if len(s) == 1 {
					good.Size = int(s[0])
				}
				p := reg(slices.Concat(b, s)...)
				x := below(l[0], l[1], p)
				if uint(good.Base) <= most && uint(good.Size) <= most && good.Base+good.Size <= most {
					hasRegions(t, x, 2, good)
					checks(t, x, 0, api.OK)
				} else {
					failsRegions(t, x, 2, api.ErrRange)
					checks(t, x, 2, api.ErrRange)
				}
			}
		}
	}
}

func TestEndsOfRegions(t *testing.T) {
	in := func(l ...uint64) api.Tree {
		var out []uint32
		for _, n := range l {
			out = append(out, two(n)...)
		}
		return below(2, 2, reg(out...))
	}
	hasRegions(t, in(most, 0), 2, region(most, 0))
	hasRegions(t, in(0, most), 2, region(0, most))
	hasRegions(t, in(most-1, 1), 2, region(most-1, 1))
	hasRegions(t, in(1<<61, 1<<61-1), 2, region(1<<61, 1<<61-1))
	for _, l := range [][]uint64{{most, 1}, {1, most}, {1 << 61, 1 << 61}, {most, most}, {most + 1, 0}, {0, most + 1}, {1<<64 - 1, 1}, {1 << 63, 1 << 63}, {1<<64 - 1, 0}, {0, 1<<64 - 1}} {
		failsRegions(t, in(l...), 2, api.ErrRange)
		// It does not matter which region it is.
		failsRegions(t, in(append([]uint64{1, 1}, l...)...), 2, api.ErrRange)
		failsRegions(t, in(append(slices.Clone(l), 1, 1)...), 2, api.ErrRange)
		failsRegions(t, in(append(append([]uint64{1, 1, most, 0}, l...), 1, 1)...), 2, api.ErrRange)
	}
}

func TestCellsBeforeRange(t *testing.T) {
	for _, n := range []int{1, 2, 3} {
		l := slices.Repeat([]uint32{0xffffffff}, 4+n)
		failsRegions(t, below(2, 2, reg(l...)), 2, api.ErrCells)
		failsRegions(t, below(2, 2, property("reg", cells(l[:4]...)+strings.Repeat("\xff", n))), 2, api.ErrCells)
		checks(t, below(2, 2, reg(l...)), 2, api.ErrCells)
	}
	failsRegions(t, below(2, 2, reg(slices.Repeat([]uint32{0xffffffff}, 8)...)), 2, api.ErrRange)
}

// TestOtherNodes checks that Regions reads a node and its parent alone.
func TestOtherNodes(t *testing.T) {
	bad := []api.Property{addresses(0), reg(1), ranges(1)}
	x := made(root(bad...), node(0, "a", bad...), node(1, "b", reg(9)), node(2, "c", reg(3, 4), ranges(5), addresses(9)), node(3, "d", bad...), node(0, "e", bad...))
	hasRegions(t, x, 3, region(3, 4))
	failsRegions(t, x, 1, api.ErrCells)
	failsRegions(t, x, 2, api.ErrCells)
	failsRegions(t, x, 4, api.ErrCells)
	failsRegions(t, x, 5, api.ErrCells)
	hasRegions(t, x, 0)
	failsRegions(t, x, 6, api.ErrUnknown)
}

// TestManyRegions reads as many regions as a tree has room for.
func TestManyRegions(t *testing.T) {
	x := made(root())
	for i := range api.MaxNodes - 1 {
		var l []uint32
		for k := range 32 {
			l = append(l, uint32(i), uint32(k))
		}
		x.Nodes = append(x.Nodes, node(0, "n"+strconv.Itoa(100+i), reg(l...)))
	}
	for i := range api.MaxNodes - 1 {
		var want []api.Region
		for k := range 32 {
			want = append(want, region(i, k))
		}
		hasRegions(t, x, i+1, want...)
	}
}
