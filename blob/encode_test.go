package blob_test

import (
	"bytes"
	"encoding/binary"
	"slices"
	"strconv"
	"strings"
	"testing"

	"bringup/api"
	"bringup/blob"
	"bringup/tree"
)

func node(parent int, name string, l ...api.Property) api.Node {
	return api.Node{Parent: parent, Name: name, Properties: l}
}

func root(l ...api.Property) api.Node { return node(-1, "", l...) }

func made(nodes ...api.Node) api.Tree { return api.Tree{Nodes: nodes} }

func property(name, value string) api.Property { return api.Property{Name: name, Value: value} }

// clone returns a tree that shares no memory with another one.
func clone(t api.Tree) api.Tree {
	out := api.Tree{Nodes: slices.Clone(t.Nodes)}
	for i, n := range out.Nodes {
		out.Nodes[i].Properties = slices.Clone(n.Properties)
	}
	return out
}

// deep returns a tree in which so many nodes are below each other.
func deep(n int) api.Tree {
	t := made(root())
	for i := range n {
		t.Nodes = append(t.Nodes, node(i, "d"))
	}
	return t
}

// wide returns a tree in which the root has so many children.
func wide(n int) api.Tree {
	t := made(root())
	for i := range n {
		t.Nodes = append(t.Nodes, node(0, "n"+strconv.Itoa(1000+i)))
	}
	return t
}

// many returns so many properties with a value, ascending.
func many(n int, value string) []api.Property {
	var out []api.Property
	for i := range n {
		out = append(out, property("p"+strconv.Itoa(1000+i), value))
	}
	return out
}

// raw puts numbers and bytes after each other.
func raw(l ...any) []byte {
	var out []byte
	for _, x := range l {
		switch x := x.(type) {
		case int:
			out = binary.BigEndian.AppendUint32(out, uint32(x))
		case string:
			out = append(out, x...)
		case []byte:
			out = append(out, x...)
		}
	}
	return out
}

// sumOf is the check number as the chapter says it.
func sumOf(b []byte) int {
	sum := 0
	for i := range b {
		sum = (sum + int(b[i])*(i+1)) % (1 << 32)
	}
	return sum
}

// headed puts a right header before a structure and strings.
func headed(structure []byte, names string) []byte {
	head := raw(0xd00dfeed, 28+len(structure)+len(names), len(structure), len(names), sumOf(structure), sumOf([]byte(names)))
	return raw(head, sumOf(head), structure, names)
}

// encodes checks the bytes of a tree, and that they give it again.
func encodes(t *testing.T, x api.Tree, want []byte) {
	t.Helper()
	before := clone(x)
	b, e := blob.Encode(x)
	if e != api.OK || !bytes.Equal(b, want) {
		t.Errorf("%.300v: error %d, %.2000q, not %.2000q", x, e, b, want)
	}
	if !tree.Same(x, before) {
		t.Errorf("%.300v was changed", before)
	}
	decodes(t, want, x)
}

// fails checks that a tree has an error and no bytes.
func fails(t *testing.T, x api.Tree, want api.Errno) {
	t.Helper()
	before := clone(x)
	if b, e := blob.Encode(x); e != want || len(b) > 0 {
		t.Errorf("%.300v: %d bytes, error %d, not %d", x, len(b), e, want)
	}
	if !tree.Same(x, before) {
		t.Errorf("%.300v was changed", before)
	}
}

// TestExampleOfTheChapter has the bytes as they are.
func TestExampleOfTheChapter(t *testing.T) {
	want := "\xd0\x0d\xfe\xed" + "\x00\x00\x00\x2c" + "\x00\x00\x00\x10" + "\x00\x00\x00\x00" + "\x00\x00\x00\xac" + "\x00\x00\x00\x00" + "\x00\x00\x17\x28" +
		"\x00\x00\x00\x01" + "\x00\x00\x00\x00" + "\x00\x00\x00\x02" + "\x00\x00\x00\x09"
	encodes(t, made(root()), []byte(want))
	encodes(t, made(api.Node{Parent: -1, Properties: []api.Property{}}), []byte(want))
}

// TestBytesOfATree has a tree with the bytes of all its parts, one after the other.
func TestBytesOfATree(t *testing.T) {
	x := made(root(property("#n", "\x00\x00\x01\x02"), property("b", "")), node(0, "cpu@0", property("b", "x\x00")), node(1, "l2c"), node(0, "uart", property("#n", "abcde"), property("a", "\x00")))
	structure := raw(
		1, "\x00\x00\x00\x00",
		3, 4, 0, "\x00\x00\x01\x02",
		3, 0, 3,
		1, "cpu@0\x00\x00\x00",
		3, 2, 3, "x\x00\x00\x00",
		1, "l2c\x00",
		2,
		2,
		1, "uart\x00\x00\x00\x00",
		3, 5, 0, "abcde\x00\x00\x00",
		3, 1, 5, "\x00\x00\x00\x00",
		2,
		2,
		9)
	encodes(t, x, headed(structure, "#n\x00b\x00a\x00"))
	if b, _ := blob.Encode(x); !bytes.HasPrefix(b, raw(0xd00dfeed, 175, 140, 7, 140450, 1229, 14108)) {
		t.Errorf("header %x", b[:min(len(b), 28)])
	}
}

func TestNamesOfNodes(t *testing.T) {
	for length := 1; length <= api.MaxName; length++ {
		name := strings.Repeat("n", length)
		text := name + strings.Repeat("\x00", 4-length%4)
		encodes(t, made(root(), node(0, name)), headed(raw(1, 0, 1, text, 2, 2, 9), ""))
		encodes(t, made(root(), node(0, name), node(1, name)), headed(raw(1, 0, 1, text, 1, text, 2, 2, 2, 9), ""))
	}
}

func TestValuesOfEachLength(t *testing.T) {
	for length := range api.MaxValue + 1 {
		for _, s := range []string{"\x00", "v", "\xff"} {
			value := strings.Repeat(s, length)
			zeros := []string{"", "\x00\x00\x00", "\x00\x00", "\x00"}[length%4]
			encodes(t, made(root(property("p", value))), headed(raw(1, 0, 3, length, 0, value, zeros, 2, 9), "p\x00"))
			encodes(t, made(root(property("p", value), property("q", value)), node(0, "n")), headed(raw(1, 0, 3, length, 0, value, zeros, 3, length, 2, value, zeros, 1, "n\x00\x00\x00", 2, 2, 9), "p\x00q\x00"))
		}
	}
}

func TestNamesOfPropertiesOccurOnce(t *testing.T) {
	p, q := property("p", ""), property("q", "")
	encodes(t, made(root(p), node(0, "a", p), node(1, "b", p), node(0, "c", p)),
		headed(raw(1, 0, 3, 0, 0, 1, "a\x00\x00\x00", 3, 0, 0, 1, "b\x00\x00\x00", 3, 0, 0, 2, 2, 1, "c\x00\x00\x00", 3, 0, 0, 2, 2, 9), "p\x00"))
	// They are in the order of the structure, not in that of names.
	encodes(t, made(root(), node(0, "a", q), node(0, "b", p, q)),
		headed(raw(1, 0, 1, "a\x00\x00\x00", 3, 0, 0, 2, 1, "b\x00\x00\x00", 3, 0, 2, 3, 0, 0, 2, 2, 9), "q\x00p\x00"))
	encodes(t, made(root(q), node(0, "a", p, q)),
		headed(raw(1, 0, 3, 0, 0, 1, "a\x00\x00\x00", 3, 0, 2, 3, 0, 0, 2, 2, 9), "q\x00p\x00"))
	// A name does not stand for one that begins or ends in the same way, nor for a node or a value.
	encodes(t, made(root(property("aap", "ap\x00"), property("ap", "aap\x00"), property("apa", "")), node(0, "pa", property("a", ""), property("p", ""))),
		headed(raw(1, 0, 3, 3, 0, "ap\x00\x00", 3, 4, 4, "aap\x00", 3, 0, 7, 1, "pa\x00\x00", 3, 0, 11, 3, 0, 13, 2, 2, 9), "aap\x00ap\x00apa\x00a\x00p\x00"))
}

func TestNamesOfPropertiesOfEachLength(t *testing.T) {
	structure, names := raw(1, 0), ""
	var x []api.Property
	for length := api.MaxName - api.MaxProperties + 1; length <= api.MaxName; length++ {
		name := strings.Repeat("p", length)
		x = append(x, property(name, name))
		structure = raw(structure, 3, length, len(names), name, strings.Repeat("\x00", 3-(length+3)%4))
		names += name + "\x00"
	}
	encodes(t, made(root(x...)), headed(raw(structure, 2, 9), names))
}

// TestNodesEnd has nodes of which several end at once.
func TestNodesEnd(t *testing.T) {
	begin := func(s string) []byte { return raw(1, s, "\x00\x00\x00") }
	x := made(root(), node(0, "a"), node(1, "b"), node(2, "c"), node(1, "d"), node(4, "e"), node(5, "f"), node(0, "g"), node(0, "h"), node(8, "i"))
	encodes(t, x, headed(raw(1, 0, begin("a"), begin("b"), begin("c"), 2, 2, begin("d"), begin("e"), begin("f"), 2, 2, 2, 2, begin("g"), 2, begin("h"), begin("i"), 2, 2, 2, 9), ""))
	for n := range api.MaxDepth + 1 {
		encodes(t, deep(n), headed(raw(1, 0, bytes.Repeat(begin("d"), n), bytes.Repeat(raw(2), n), 2, 9), ""))
	}
}

func TestMostNodes(t *testing.T) {
	structure := raw(1, 0)
	for i := range api.MaxNodes - 1 {
		structure = raw(structure, 1, "n"+strconv.Itoa(1000+i), "\x00\x00\x00", 2)
	}
	encodes(t, wide(api.MaxNodes-1), headed(raw(structure, 2, 9), ""))
}

func TestTreesThatAreNotValid(t *testing.T) {
	fails(t, api.Tree{}, api.ErrLimit)
	fails(t, api.Tree{Nodes: []api.Node{}}, api.ErrLimit)
	fails(t, wide(api.MaxNodes), api.ErrLimit)
	fails(t, made(root(many(api.MaxProperties+1, "")...)), api.ErrLimit)
	fails(t, made(root(property("p", strings.Repeat("v", api.MaxValue+1)))), api.ErrLimit)
	fails(t, made(api.Node{}), api.ErrInvalid)
	fails(t, made(node(-1, "a")), api.ErrInvalid)
	fails(t, made(root(), node(1, "a")), api.ErrInvalid)
	fails(t, made(root(), node(-1, "a")), api.ErrInvalid)
	fails(t, made(root(), node(1<<40, "a")), api.ErrInvalid)
	fails(t, made(root(), node(0, "")), api.ErrInvalid)
	fails(t, made(root(), node(0, "a\x00")), api.ErrInvalid)
	fails(t, made(root(property("a@1", ""))), api.ErrInvalid)
	fails(t, made(root(property("a\x00b", ""))), api.ErrInvalid)
	fails(t, made(root(), node(0, "b"), node(0, "a")), api.ErrOrder)
	fails(t, made(root(), node(0, "a"), node(0, "b"), node(1, "c")), api.ErrOrder)
	fails(t, made(root(property("q", ""), property("p", ""))), api.ErrOrder)
	fails(t, made(root(property("p", ""), property("p", ""))), api.ErrOrder)
	fails(t, made(root(), node(0, "a"), node(0, "a")), api.ErrDuplicate)
	fails(t, deep(api.MaxDepth+1), api.ErrRange)
}

// sized returns a tree whose encoding has so many bytes.
func sized(size int) api.Tree {
	x := wide(api.MaxNodes - 1)
	give := func(node int, name string, length int) {
		l := &x.Nodes[node].Properties
		*l = append(*l, property(name, strings.Repeat("v", length)))
	}
	rest := func() int { return size - len(modelEncode(x)) }
	for i := range x.Nodes {
		give(i, "p", api.MaxValue)
	}
	for i := 0; rest() > api.MaxValue+9; i++ {
		give(i, "q", 200)
	}
	// Values and names of nodes take up a multiple of 4, so this name has the bytes that are left over.
	length := 1 + (rest()+2)%4
	give(len(x.Nodes)-1, strings.Repeat("z", length), rest()-13-length)
	return x
}

func TestMaxBlob(t *testing.T) {
	for _, more := range []int{-33, -4, -3, -2, -1, 0} {
		x := sized(api.MaxBlob + more)
		b, e := blob.Encode(x)
		if e != api.OK || len(b) != api.MaxBlob+more || !bytes.Equal(b, modelEncode(x)) {
			t.Errorf("%d more: error %d, %d bytes", more, e, len(b))
		}
		decodes(t, b, x)
	}
	for _, more := range []int{1, 2, 3, 4, 5, 33, 10000} {
		x := sized(api.MaxBlob + more)
		if b := modelEncode(x); len(b) != api.MaxBlob+more {
			t.Fatalf("%d more: %d bytes", more, len(b))
		}
		fails(t, x, api.ErrLimit)
	}
	x := wide(api.MaxNodes - 1)
	for i := range x.Nodes {
		x.Nodes[i].Properties = many(api.MaxProperties, strings.Repeat("v", api.MaxValue))
	}
	fails(t, x, api.ErrLimit)
}

// TestErrorsOfTheTreeComeFirst has trees that are not valid and would have too many bytes.
func TestErrorsOfTheTreeComeFirst(t *testing.T) {
	for _, c := range []struct {
		spoil func(x *api.Tree)
		want  api.Errno
	}{
		{func(x *api.Tree) {}, api.ErrLimit},
		{func(x *api.Tree) { x.Nodes[0].Name = "a" }, api.ErrInvalid},
		{func(x *api.Tree) { x.Nodes[3].Name = "1" }, api.ErrInvalid},
		{func(x *api.Tree) { x.Nodes[3].Name = "a" }, api.ErrOrder},
		{func(x *api.Tree) { x.Nodes[3].Name = x.Nodes[2].Name }, api.ErrDuplicate},
		{func(x *api.Tree) {
			for i := range x.Nodes[1:] {
				x.Nodes[i+1].Parent = i
			}
		}, api.ErrRange},
	} {
		x := clone(sized(api.MaxBlob + 1))
		c.spoil(&x)
		fails(t, x, c.want)
	}
}

// TestEncodingsAreNewMemory checks that what is done with bytes does not change others.
func TestEncodingsAreNewMemory(t *testing.T) {
	x := made(root(property("p", "v")), node(0, "a"))
	first, _ := blob.Encode(x)
	want := bytes.Clone(first)
	clear(first)
	if second, e := blob.Encode(x); e != api.OK || !bytes.Equal(second, want) {
		t.Errorf("error %d, %q, not %q", e, second, want)
	}
}
