package address_test

import (
	"encoding/binary"
	"fmt"
	"slices"
	"strings"
	"testing"

	"bringup/address"
	"bringup/api"
	"bringup/include"
	"bringup/label"
	"bringup/tree"
)

// most is the greatest address.
const most = 1<<62 - 1

func node(parent int, name string, l ...api.Property) api.Node {
	slices.SortFunc(l, func(p, q api.Property) int { return strings.Compare(p.Name, q.Name) })
	return api.Node{Parent: parent, Name: name, Properties: l}
}

func root(l ...api.Property) api.Node { return node(-1, "", l...) }

func made(nodes ...api.Node) api.Tree { return api.Tree{Nodes: nodes} }

func property(name, value string) api.Property { return api.Property{Name: name, Value: value} }

// cells returns the bytes of numbers of one cell.
func cells(l ...uint32) string {
	var out []byte
	for _, n := range l {
		out = binary.BigEndian.AppendUint32(out, n)
	}
	return string(out)
}

func addresses(n uint32) api.Property { return property("#address-cells", cells(n)) }

func sizes(n uint32) api.Property { return property("#size-cells", cells(n)) }

func reg(l ...uint32) api.Property { return property("reg", cells(l...)) }

func ranges(l ...uint32) api.Property { return property("ranges", cells(l...)) }

func region(base, size int) api.Region { return api.Region{Base: base, Size: size} }

// built returns the tree of a source text.
func built(t *testing.T, text string) api.Tree {
	t.Helper()
	definitions, _, e := include.Load([]api.File{{Name: "main", Text: text}}, "main")
	if e != api.OK {
		t.Fatalf("%q: error %d", text, e)
	}
	x, _, _, e := label.Build(definitions)
	if e != api.OK {
		t.Fatalf("%q: error %d", text, e)
	}
	return x
}

// clone returns a tree that shares no memory with another one.
func clone(x api.Tree) api.Tree {
	out := api.Tree{Nodes: slices.Clone(x.Nodes)}
	for i, n := range out.Nodes {
		out.Nodes[i].Properties = slices.Clone(n.Properties)
	}
	return out
}

// shown returns a tree, as far as a message has room for it.
func shown(x api.Tree) string {
	return fmt.Sprintf("%.300q", fmt.Sprint(x.Nodes))
}

// unchanged returns a function that checks that a tree is still as it is now.
func unchanged(t *testing.T, x api.Tree) func() {
	t.Helper()
	before := clone(x)
	return func() {
		t.Helper()
		if !tree.Same(x, before) {
			t.Errorf("%s was changed", shown(before))
		}
	}
}

// hasCells checks how many cells addresses and sizes of a node have.
func hasCells(t *testing.T, x api.Tree, node, wantAddress, wantSize int) {
	t.Helper()
	defer unchanged(t, x)()
	if a, s, e := address.Cells(x, node); a != wantAddress || s != wantSize || e != api.OK {
		t.Errorf("%s: the cells of %d are %d and %d, error %d, not %d and %d", shown(x), node, a, s, e, wantAddress, wantSize)
	}
}

// failsCells checks the error of Cells.
func failsCells(t *testing.T, x api.Tree, node int, want api.Errno) {
	t.Helper()
	defer unchanged(t, x)()
	if a, s, e := address.Cells(x, node); a != 0 || s != 0 || e != want {
		t.Errorf("%s: the cells of %d are %d and %d, error %d, not %d", shown(x), node, a, s, e, want)
	}
}

func TestCells(t *testing.T) {
	x := made(root(addresses(2), sizes(1)), node(0, "a", addresses(1), sizes(2)), node(1, "aa", addresses(2), sizes(2)), node(2, "b"), node(0, "c", addresses(1), sizes(1)), node(0, "d", addresses(2)), node(0, "e", sizes(2)))
	for i, want := range [][2]int{{2, 1}, {1, 2}, {2, 2}, {1, 1}, {1, 1}, {2, 1}, {1, 2}} {
		hasCells(t, x, i, want[0], want[1])
	}
	// Those of the parent and of the children do not matter, nor do other properties.
	hasCells(t, made(root(addresses(2), sizes(2)), node(0, "a"), node(1, "b", addresses(2), sizes(2))), 1, 1, 1)
	hasCells(t, made(root(addresses(0), sizes(3)), node(0, "a"), node(1, "b", addresses(7), sizes(9))), 1, 1, 1)
	hasCells(t, made(root(property("#Address-cells", cells(2)), property("#address-cell", cells(2)), property("#address-cellss", cells(2)), property("#cells", cells(2)), property("#size-cell", cells(2)), property("address-cells", cells(2)), property("size-cells", cells(2)))), 0, 1, 1)
	hasCells(t, made(root(reg(1), ranges(2), addresses(2), sizes(1))), 0, 2, 1)
	hasCells(t, made(root(), node(0, "a", reg(1), ranges(2), addresses(2), sizes(1))), 1, 2, 1)
	hasCells(t, built(t, "/ { #address-cells = <2>; #size-cells = <1>; a { #size-cells = <2>; }; };"), 0, 2, 1)
}

// wrongCells returns values that are no number of cells.
func wrongCells() []string {
	return []string{"", "\x01", "\x02", "\x00\x01", "\x00\x00\x01", "\x00\x00\x00\x01\x00", "\x00\x00\x00\x02\x02", "1\x00\x00\x00", "1\x00", "2",
		cells(0), cells(3), cells(4), cells(0x101), cells(0x10001), cells(0x1000001), cells(0x2000000), cells(1 << 31), cells(1<<31 + 1), cells(1<<32 - 1), cells(1, 1), cells(0, 1), cells(1, 0), cells(2, 2), cells(0, 2), cells(1, 1, 1)}
}

func TestNumbersOfCellsThatAreWrong(t *testing.T) {
	for _, value := range wrongCells() {
		for _, name := range []string{"#address-cells", "#size-cells"} {
			p := property(name, value)
			failsCells(t, made(root(p)), 0, api.ErrCells)
			failsCells(t, made(root(), node(0, "a"), node(1, "b", p)), 2, api.ErrCells)
			hasCells(t, made(root(), node(0, "a"), node(1, "b", p)), 1, 1, 1)
			hasCells(t, made(root(p), node(0, "a")), 1, 1, 1)
		}
		for _, good := range []uint32{1, 2} {
			failsCells(t, made(root(addresses(good), property("#size-cells", value))), 0, api.ErrCells)
			failsCells(t, made(root(property("#address-cells", value), sizes(good))), 0, api.ErrCells)
		}
		failsCells(t, made(root(property("#address-cells", value), property("#size-cells", value))), 0, api.ErrCells)
	}
}

func TestNodesThatDoNotExist(t *testing.T) {
	for _, x := range []api.Tree{made(root()), made(root(addresses(3))), made(root(), node(0, "a", reg(1, 2)), node(1, "b", sizes(0)))} {
		for _, i := range []int{-1 << 63, -2, -1, len(x.Nodes), len(x.Nodes) + 1, api.MaxNodes, 1<<63 - 1} {
			failsCells(t, x, i, api.ErrUnknown)
			failsRegions(t, x, i, api.ErrUnknown)
		}
	}
}

// invalidTrees returns trees that are not valid, by their errors.
func invalidTrees() map[api.Errno][]api.Tree {
	var wide, deep []api.Node
	for i := range api.MaxNodes + 1 {
		wide = append(wide, node(min(i, 1)-1, strings.Repeat("n", min(i, 1))+strings.Repeat("x", i%3)))
	}
	for i := range api.MaxDepth + 2 {
		deep = append(deep, node(i-1, strings.Repeat("n", min(i, 1))))
	}
	return map[api.Errno][]api.Tree{
		api.ErrLimit:     {{}, made(wide...), made(root(property("p", strings.Repeat("v", api.MaxValue+1))))},
		api.ErrInvalid:   {made(node(0, "")), made(root(), node(1, "a")), made(root(), node(0, "x y")), made(root(property("", ""))), made(node(-1, "a"))},
		api.ErrOrder:     {made(root(), node(0, "b"), node(0, "a")), {Nodes: []api.Node{{Parent: -1, Properties: []api.Property{reg(1, 1), addresses(1)}}}}, {Nodes: []api.Node{{Parent: -1, Properties: []api.Property{reg(1, 1), reg(1, 1)}}}}},
		api.ErrDuplicate: {made(root(), node(0, "a"), node(0, "a"))},
		api.ErrRange:     {made(deep...)},
	}
}

func TestTreesThatAreNotValid(t *testing.T) {
	for want, l := range invalidTrees() {
		for _, x := range l {
			// What is wrong with addresses and indices comes after what is wrong with the tree.
			spoilt := clone(x)
			for i, n := range spoilt.Nodes {
				spoilt.Nodes[i].Properties = append([]api.Property{property("#address-cells", "")}, n.Properties...)
			}
			for _, x := range []api.Tree{x, spoilt} {
				if e := tree.Check(x); e != want {
					t.Fatalf("%s: error %d, not %d", shown(x), e, want)
				}
				for _, i := range []int{-1, 0, 1, len(x.Nodes)} {
					failsCells(t, x, i, want)
					failsRegions(t, x, i, want)
					failsTranslate(t, x, i, 0, want)
					failsTranslate(t, x, 0, i, want)
				}
				checks(t, x, 0, want)
				failsOverlaps(t, x, want)
			}
		}
	}
}
