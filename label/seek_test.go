package label_test

import (
	"math"
	"strings"
	"testing"

	"bringup/api"
	"bringup/label"
)

// stands checks the node of a label.
func stands(t *testing.T, l []api.Labelled, s string, node int, ok bool) {
	t.Helper()
	if got, gotOK := label.Node(l, s); got != node || gotOK != ok {
		t.Errorf("%v: %.40q is %d, %v, not %d, %v", l, s, got, gotOK, node, ok)
	}
}

func TestNode(t *testing.T) {
	_, l, _, _ := label.Build(read(t, "c: / { b: x { }; a: y { d: z { }; }; };"))
	for s, node := range map[string]int{"a": 2, "b": 1, "c": 0, "d": 3} {
		stands(t, l, s, node, true)
		stands(t, nil, s, 0, false)
		stands(t, l, strings.ToUpper(s), 0, false)
		stands(t, l, "&"+s, 0, false)
		stands(t, l, s+s, 0, false)
		stands(t, l, s+"\x00", 0, false)
	}
	for _, s := range []string{"", "e", "x", "/", "9", "\xff", strings.Repeat("a", 1<<20)} {
		stands(t, l, s, 0, false)
		stands(t, nil, s, 0, false)
		stands(t, []api.Labelled{}, s, 0, false)
	}
}

func TestNodeOfAnyLists(t *testing.T) {
	// Lists need not be as Build gives them: the first element counts.
	l := []api.Labelled{{Label: "b", Node: 5}, {Label: "a", Node: 7}, {Label: "b", Node: 1}, {Label: "", Node: 3}, {Label: "a b", Node: -4}, {Label: "", Node: 2}, {Label: "c", Node: math.MaxInt}}
	stands(t, l, "b", 5, true)
	stands(t, l, "a", 7, true)
	stands(t, l, "", 3, true)
	stands(t, l, "a b", -4, true)
	stands(t, l, "c", math.MaxInt, true)
	stands(t, l, "d", 0, false)
}

// hasPhandle checks the node with a phandle.
func hasPhandle(t *testing.T, x api.Tree, phandle, node int, ok bool) {
	t.Helper()
	if got, gotOK := label.Phandle(x, phandle); got != node || gotOK != ok {
		t.Errorf("%.300v: %d is %d, %v, not %d, %v", x, phandle, got, gotOK, node, ok)
	}
}

// with returns a tree whose nodes x0, x1 and so on have these phandles as bytes; the root has the first one.
func with(values ...string) api.Tree {
	var x api.Tree
	for i, v := range values {
		n := api.Node{Parent: 0, Name: "x" + string(rune('0'+i)), Properties: []api.Property{{Name: "p", Value: "\x00\x00\x00\x07"}, {Name: "phandle", Value: v}, {Name: "q", Value: "\x00\x00\x00\x08"}}}
		if i == 0 {
			n.Parent, n.Name = -1, ""
		}
		x.Nodes = append(x.Nodes, n)
	}
	return x
}

func TestPhandle(t *testing.T) {
	x, _, _, _ := label.Build(read(t, "/ { a: x { }; y { phandle = <0x100000>; }; b: z { p = <&a &b 3>; phandle = <0x1ff>; }; };"))
	hasPhandle(t, x, 1, 1, true)
	hasPhandle(t, x, api.MaxPhandle, 2, true)
	hasPhandle(t, x, 0x1ff, 3, true)
	for _, n := range []int{math.MinInt, -1, 0, 2, 3, 0xff, 0x100, 0xffff, api.MaxPhandle - 1, api.MaxPhandle + 1, 1<<32 + 1, math.MaxInt} {
		hasPhandle(t, x, n, 0, false)
	}
	hasPhandle(t, with("\x00\x00\x00\x01"), 1, 0, true)
	hasPhandle(t, api.Tree{Nodes: []api.Node{{Parent: -1}}}, 1, 0, false)
	hasPhandle(t, with("\x00\x01\x02\x03", "\x00\x0f\xff\xff", "\x00\x00\x01\x00"), 0x010203, 0, true)
	hasPhandle(t, with("\x00\x01\x02\x03", "\x00\x0f\xff\xff", "\x00\x00\x01\x00"), 0x0fffff, 1, true)
	hasPhandle(t, with("\x00\x01\x02\x03", "\x00\x0f\xff\xff", "\x00\x00\x01\x00"), 0x100, 2, true)
	// The first node counts, and only the property 'phandle' does.
	hasPhandle(t, with("\x00\x00\x00\x02", "\x00\x00\x00\x01", "\x00\x00\x00\x01"), 1, 1, true)
	hasPhandle(t, with("\x00\x00\x00\x02"), 7, 0, false)
	hasPhandle(t, with("\x00\x00\x00\x02"), 8, 0, false)
}

func TestPhandleHasExactlyFourBytes(t *testing.T) {
	for _, v := range []string{"", "\x01", "\x00\x01", "\x00\x00\x01", "\x01\x00\x00\x00", "\x00\x00\x00\x00\x01", "\x00\x00\x00\x01\x00", "\x00\x00\x00\x01\x00\x00\x00\x01", "\x80\x00\x00\x01", "1", "1\x00", "\x00\x00\x00\x02"} {
		hasPhandle(t, with(v), 1, 0, false)
		hasPhandle(t, with("", v, "\x00\x00\x00\x01"), 1, 2, true)
	}
	// Numbers out of range are no phandles, although nodes may have their bytes.
	x := with("\x00\x00\x00\x00", "\x00\x10\x00\x01", "\xff\xff\xff\xff")
	for _, n := range []int{0, api.MaxPhandle + 1, api.MaxCell, -1, 1 << 32} {
		hasPhandle(t, x, n, 0, false)
	}
	hasPhandle(t, with("\x00\x0f\xff\xff", "\x00\x10\x00\x00"), api.MaxPhandle-1, 0, true)
	hasPhandle(t, with("\x00\x0f\xff\xff", "\x00\x10\x00\x00"), api.MaxPhandle, 1, true)
}

func TestPhandleOfTreesThatAreNotValid(t *testing.T) {
	hasPhandle(t, api.Tree{}, 1, 0, false)
	value := "\x00\x00\x00\x01"
	spoils := []func(x *api.Tree){
		func(x *api.Tree) { x.Nodes[0].Parent = 0 },
		func(x *api.Tree) { x.Nodes[0].Name = "a" },
		func(x *api.Tree) { x.Nodes[2].Name = "x1" },
		func(x *api.Tree) { x.Nodes[2].Name = "a" },
		func(x *api.Tree) { x.Nodes[2].Name = "9" },
		func(x *api.Tree) { x.Nodes[2].Parent = 2 },
		func(x *api.Tree) { x.Nodes[2].Properties[0].Name = "z" },
		func(x *api.Tree) { x.Nodes[2].Properties[0].Value = strings.Repeat("v", api.MaxValue+1) },
	}
	for _, spoil := range spoils {
		for at := range 3 {
			values := []string{"", "", ""}
			values[at] = value
			hasPhandle(t, with(values...), 1, at, true)
			x := with(values...)
			spoil(&x)
			hasPhandle(t, x, 1, 0, false)
		}
	}
}

// TestPhandlesAreFound checks that Phandle finds what Build has assigned, as long as Node says which node it is.
func TestPhandlesAreFound(t *testing.T) {
	x, l, _, _ := label.Build(read(t, "r: / { p = <&a &b &c &r>; c: w { b: x { phandle = <2>; }; }; v { a: x { }; }; };"))
	for s, phandle := range map[string]int{"r": 1, "a": 3, "b": 2, "c": 4} {
		node, ok := label.Node(l, s)
		if !ok {
			t.Errorf("no label %s in %v", s, l)
		}
		hasPhandle(t, x, phandle, node, true)
	}
}
