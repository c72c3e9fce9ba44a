package tree_test

import (
	"slices"
	"strconv"
	"strings"
	"testing"

	"bringup/api"
	"bringup/tree"
)

func node(parent int, name string, l ...api.Property) api.Node {
	return api.Node{Parent: parent, Name: name, Properties: l}
}

func root(l ...api.Property) api.Node { return node(-1, "", l...) }

func made(nodes ...api.Node) api.Tree { return api.Tree{Nodes: nodes} }

func property(name, value string) api.Property { return api.Property{Name: name, Value: value} }

// clone returns a tree that shares no memory with another one.
func clone(t api.Tree) api.Tree {
	out := api.Tree{Nodes: slices.Clone(t.Nodes)}
	for i, n := range out.Nodes {
		out.Nodes[i].Properties = slices.Clone(n.Properties)
	}
	return out
}

// named returns so many names, ascending.
func named(prefix string, n int) []string {
	var out []string
	for i := range n {
		out = append(out, prefix+strconv.Itoa(1000+i))
	}
	return out
}

// wide returns a tree in which the root has so many children.
func wide(n int) api.Tree {
	t := made(root())
	for _, s := range named("n", n) {
		t.Nodes = append(t.Nodes, node(0, s))
	}
	return t
}

// deep returns a tree in which so many nodes are below each other.
func deep(n int) api.Tree {
	t := made(root())
	for i := range n {
		t.Nodes = append(t.Nodes, node(i, "d"))
	}
	return t
}

// many returns so many properties, ascending.
func many(n int) []api.Property {
	var out []api.Property
	for _, s := range named("p", n) {
		out = append(out, property(s, ""))
	}
	return out
}

// example is the tree of the chapter, with properties.
func example() api.Tree {
	return made(root(property("#p", "1"), property("q", "")), node(0, "a"), node(0, "b", property("p", "\x00")), node(2, "c", property("p", "2")))
}

func checks(t *testing.T, x api.Tree, want api.Errno) {
	t.Helper()
	before := clone(x)
	if e := tree.Check(x); e != want {
		t.Errorf("%.300v: error %d, not %d", x, e, want)
	}
	if !slices.EqualFunc(x.Nodes, before.Nodes, sameNode) {
		t.Errorf("%.300v was changed", before)
	}
}

func sameNode(a, b api.Node) bool {
	return a.Parent == b.Parent && a.Name == b.Name && slices.Equal(a.Properties, b.Properties)
}

func TestValidTrees(t *testing.T) {
	checks(t, made(root()), api.OK)
	checks(t, example(), api.OK)
	checks(t, made(api.Node{Parent: -1, Properties: []api.Property{}}), api.OK)
	checks(t, made(root(), node(0, "a"), node(1, "a"), node(2, "a"), node(1, "b"), node(0, "b"), node(5, "a")), api.OK)
	checks(t, made(root(), node(0, "a"), node(1, "z"), node(2, "z"), node(0, "b"), node(4, "a")), api.OK)
	checks(t, made(root(property("p", "1")), node(0, "p", property("p", "1")), node(1, "p", property("p", "1"))), api.OK)
}

func TestNumberOfNodes(t *testing.T) {
	checks(t, api.Tree{}, api.ErrLimit)
	checks(t, api.Tree{Nodes: []api.Node{}}, api.ErrLimit)
	for _, n := range []int{1, 2, api.MaxNodes - 2, api.MaxNodes - 1} {
		checks(t, wide(n), api.OK)
	}
	for _, n := range []int{api.MaxNodes, api.MaxNodes + 1, 10 * api.MaxNodes} {
		checks(t, wide(n), api.ErrLimit)
	}
	// Such trees are not looked at any further.
	checks(t, api.Tree{Nodes: make([]api.Node, api.MaxNodes)}, api.ErrInvalid)
	checks(t, api.Tree{Nodes: make([]api.Node, api.MaxNodes+1)}, api.ErrLimit)
	checks(t, api.Tree{Nodes: make([]api.Node, 1<<20)}, api.ErrLimit)
}

func TestNumberOfProperties(t *testing.T) {
	for n := range 3 * api.MaxProperties {
		want := api.OK
		if n > api.MaxProperties {
			want = api.ErrLimit
		}
		checks(t, made(root(many(n)...)), want)
		checks(t, made(root(), node(0, "a"), node(0, "b", many(n)...)), want)
	}
	full := wide(api.MaxNodes - 1)
	for i := range full.Nodes {
		full.Nodes[i].Properties = many(api.MaxProperties)
	}
	checks(t, full, api.OK)
}

func TestLengthOfValues(t *testing.T) {
	for n, want := range map[int]api.Errno{0: api.OK, 1: api.OK, api.MaxValue - 1: api.OK, api.MaxValue: api.OK, api.MaxValue + 1: api.ErrLimit, 1 << 20: api.ErrLimit} {
		for _, s := range []string{"\x00", "a", "\xff"} {
			v := strings.Repeat(s, n)
			checks(t, made(root(property("p", v))), want)
			checks(t, made(root(property("p", ""), property("q", v))), want)
			checks(t, made(root(), node(0, "a"), node(1, "b", property("p", v))), want)
		}
	}
}

func TestRoots(t *testing.T) {
	for _, parent := range []int{-1 << 63, -2, 0, 1, 1<<63 - 1} {
		checks(t, made(node(parent, "")), api.ErrInvalid)
		checks(t, made(node(parent, ""), node(0, "a")), api.ErrInvalid)
	}
	for _, name := range []string{"/", "a", " ", "\x00", "root"} {
		checks(t, made(node(-1, name)), api.ErrInvalid)
		checks(t, made(node(-1, name), node(0, "a")), api.ErrInvalid)
	}
	checks(t, made(root(), root()), api.ErrInvalid)
	checks(t, made(root(), node(-1, "a")), api.ErrInvalid)
}

func TestParents(t *testing.T) {
	for _, parent := range []int{-1 << 63, -2, -1, 2, 3, 4, 1<<63 - 1} {
		checks(t, made(root(), node(0, "a"), node(parent, "b"), node(0, "c")), api.ErrInvalid)
	}
	for _, parent := range []int{0, 1} {
		checks(t, made(root(), node(0, "a"), node(parent, "b"), node(0, "c")), api.OK)
	}
	checks(t, made(root(), node(1, "a")), api.ErrInvalid)
	// Two nodes lead to each other.
	checks(t, made(root(), node(2, "a"), node(1, "b")), api.ErrInvalid)
}

func TestNamesOfNodes(t *testing.T) {
	for _, s := range []string{"a", "_", "Z", "cpu@1f,0", "a,.+-?#@", strings.Repeat("a", api.MaxName)} {
		checks(t, made(root(), node(0, s)), api.OK)
	}
	for _, s := range []string{"", "#a", "1", "@a", "-", "a b", "a/b", "/a", "a:", "a\x00", "\xe9", strings.Repeat("a", api.MaxName+1)} {
		checks(t, made(root(), node(0, s)), api.ErrInvalid)
		checks(t, made(root(), node(0, "_"), node(1, s)), api.ErrInvalid)
	}
}

func TestNamesOfPropertiesOfTrees(t *testing.T) {
	for _, s := range []string{"a", "_", "#", "#size-cells", "a,.+-?#", strings.Repeat("#", api.MaxName)} {
		checks(t, made(root(property(s, "")), node(0, "a", property(s, ""))), api.OK)
	}
	for _, s := range []string{"", "1", "a@1", "-", "a b", "a/b", "a:", "a\x00", "\xe9", strings.Repeat("a", api.MaxName+1)} {
		checks(t, made(root(property(s, ""))), api.ErrInvalid)
		checks(t, made(root(), node(0, "a", property("a", ""), property(s, ""))), api.ErrInvalid)
	}
}

func TestOrderOfAWalk(t *testing.T) {
	checks(t, made(root(), node(0, "a"), node(0, "b"), node(1, "c")), api.ErrOrder)
	checks(t, made(root(), node(0, "a"), node(1, "b"), node(0, "c"), node(1, "d")), api.ErrOrder)
	checks(t, made(root(), node(0, "a"), node(1, "b"), node(1, "c"), node(2, "d")), api.ErrOrder)
	checks(t, made(root(), node(0, "a"), node(1, "b"), node(2, "c"), node(0, "b"), node(3, "d")), api.ErrOrder)
	checks(t, made(root(), node(0, "a"), node(1, "b"), node(2, "c"), node(1, "c"), node(0, "b")), api.OK)
	checks(t, made(root(), node(0, "a"), node(1, "b"), node(2, "c"), node(1, "a"), node(0, "b")), api.ErrOrder)
	checks(t, made(root(), node(0, "b"), node(1, "c"), node(2, "d"), node(0, "a")), api.ErrOrder)
	checks(t, made(root(), node(0, "b"), node(1, "a"), node(1, "c")), api.OK)
	checks(t, made(root(), node(0, "b"), node(0, "a")), api.ErrOrder)
}

func TestNamesAscend(t *testing.T) {
	names := []string{"A", "Z", "_", "a", "a#", "a+", "a,", "a-", "a-b", "a.", "a0", "a00", "a1", "a10", "a2", "a?", "a@", "a@1", "aA", "a_", "aa", "aaa", "b"}
	for i, a := range names {
		for j, b := range names {
			want := api.OK
			switch {
			case i == j:
				want = api.ErrDuplicate
			case i > j:
				want = api.ErrOrder
			}
			checks(t, made(root(), node(0, a), node(0, b)), want)
			checks(t, made(root(), node(0, a), node(1, "z"), node(2, "z"), node(0, b)), want)
			if strings.Contains(a+b, "@") {
				continue
			}
			if i == j {
				want = api.ErrOrder
			}
			checks(t, made(root(property(a, ""), property(b, ""))), want)
			checks(t, made(root(), node(0, "a", property("#", ""), property(a, "1"), property(b, "2"))), want)
		}
	}
	checks(t, made(root(property("p", "1"), property("p", "2"))), api.ErrOrder)
}

func TestNamesThatOccurTwice(t *testing.T) {
	checks(t, made(root(), node(0, "a"), node(0, "a")), api.ErrDuplicate)
	checks(t, made(root(), node(0, "a", property("p", "1")), node(0, "a", property("p", "2"))), api.ErrDuplicate)
	checks(t, made(root(), node(0, "a"), node(1, "b"), node(1, "b"), node(0, "c")), api.ErrDuplicate)
	checks(t, made(root(), node(0, "a"), node(1, "b"), node(0, "a"), node(3, "b")), api.ErrDuplicate)
	checks(t, made(root(), node(0, "a"), node(1, "a"), node(0, "a")), api.ErrDuplicate)
	checks(t, made(root(), node(0, "a"), node(1, "a"), node(2, "a")), api.OK)
	checks(t, made(root(), node(0, "a"), node(1, "c"), node(0, "b"), node(3, "c")), api.OK)
	// What is between two equal names makes it an error of order.
	checks(t, made(root(), node(0, "a"), node(0, "b"), node(0, "a")), api.ErrOrder)
}

func TestDepth(t *testing.T) {
	for n := range api.MaxNodes {
		want := api.OK
		if n > api.MaxDepth {
			want = api.ErrRange
		}
		checks(t, deep(n), want)
	}
	x := deep(api.MaxDepth)
	x.Nodes = append(x.Nodes, node(api.MaxDepth-1, "e"), node(0, "e"))
	checks(t, x, api.OK)
	x.Nodes = append(deep(api.MaxDepth+1).Nodes, node(0, "e"))
	checks(t, x, api.ErrRange)
}

// defects are trees that each have one error; they begin with the root alone.
func defects() map[api.Errno][]api.Tree {
	return map[api.Errno][]api.Tree{
		api.ErrLimit:     {made(root(many(api.MaxProperties + 1)...)), made(root(property("p", strings.Repeat("v", api.MaxValue+1)))), wide(api.MaxNodes)},
		api.ErrInvalid:   {made(root(property("@", ""))), made(root(), node(1, "a")), made(root(), node(-1, "a")), made(root(), node(0, "")), made(root(), node(0, "#"))},
		api.ErrOrder:     {made(root(property("b", ""), property("a", ""))), made(root(property("a", ""), property("a", ""))), made(root(), node(0, "b"), node(0, "a")), made(root(), node(0, "a"), node(0, "b"), node(1, "c"))},
		api.ErrDuplicate: {made(root(), node(0, "a"), node(0, "a"))},
		api.ErrRange:     {deep(api.MaxDepth + 1)},
	}
}

// joined returns a tree with the nodes of two others below the children l and m of its root.
func joined(a, b api.Tree) api.Tree {
	t := made(root())
	for i, x := range []api.Tree{a, b} {
		from := len(t.Nodes)
		for j, n := range clone(x).Nodes {
			if j == 0 {
				n.Parent, n.Name = 0, string([]byte{'l' + byte(i)})
			} else if n.Parent >= 0 {
				n.Parent += from
			}
			t.Nodes = append(t.Nodes, n)
		}
	}
	return t
}

func TestOrderOfErrors(t *testing.T) {
	order := []api.Errno{api.ErrLimit, api.ErrInvalid, api.ErrOrder, api.ErrDuplicate, api.ErrRange}
	for i, e := range order {
		for _, x := range defects()[e] {
			checks(t, x, e)
			checks(t, joined(x, made(root())), e)
			for _, f := range order[i:] {
				for _, y := range defects()[f] {
					checks(t, joined(x, y), e)
					checks(t, joined(y, x), e)
				}
			}
		}
	}
}
