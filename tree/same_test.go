package tree_test

import (
	"testing"

	"bringup/api"
	"bringup/tree"
)

func isSame(t *testing.T, a, b api.Tree, want bool) {
	t.Helper()
	for _, x := range [][2]api.Tree{{a, b}, {b, a}} {
		if got := tree.Same(x[0], x[1]); got != want {
			t.Errorf("%.300v and %.300v: %v", x[0], x[1], got)
		}
	}
}

// TestSame holds each two of several trees, valid ones and others, against each other.
func TestSame(t *testing.T) {
	trees := []func() api.Tree{
		func() api.Tree { return api.Tree{} },
		func() api.Tree { return made(root()) },
		func() api.Tree { return made(node(0, "")) },
		func() api.Tree { return made(node(-1, "a")) },
		func() api.Tree { return made(root(), root()) },
		func() api.Tree { return made(root(property("", ""))) },
		func() api.Tree { return made(root(property("p", ""))) },
		func() api.Tree { return made(root(property("p", "v"))) },
		func() api.Tree { return made(root(property("p", "\x00"))) },
		func() api.Tree { return made(root(property("q", "v"))) },
		func() api.Tree { return made(root(property("p", "v"), property("p", "v"))) },
		func() api.Tree { return made(root(property("p", "v"), property("q", "v"))) },
		func() api.Tree { return made(root(property("q", "v"), property("p", "v"))) },
		func() api.Tree { return made(root(), node(0, "a")) },
		func() api.Tree { return made(root(), node(0, "b")) },
		func() api.Tree { return made(root(), node(1, "a")) },
		func() api.Tree { return made(root(), node(0, "a", property("p", "v"))) },
		func() api.Tree { return made(root(property("p", "v")), node(0, "a")) },
		func() api.Tree { return made(root(), node(0, "a"), node(0, "b")) },
		func() api.Tree { return made(root(), node(0, "b"), node(0, "a")) },
		func() api.Tree { return made(root(), node(0, "a"), node(1, "b")) },
		example,
		func() api.Tree { return wide(api.MaxNodes) },
		func() api.Tree { return wide(api.MaxNodes + 1) },
		func() api.Tree { return deep(api.MaxNodes) },
	}
	for i, a := range trees {
		for j, b := range trees {
			isSame(t, a(), b(), i == j)
		}
	}
}

func TestSameOfEachChange(t *testing.T) {
	isSame(t, example(), example(), true)
	for i := range example().Nodes {
		x := example()
		x.Nodes[i].Name += "x"
		isSame(t, example(), x, false)
		x = example()
		x.Nodes[i].Parent++
		isSame(t, example(), x, false)
		x = example()
		x.Nodes = append(x.Nodes[:i], x.Nodes[i+1:]...)
		isSame(t, example(), x, false)
		for j := range example().Nodes[i].Properties {
			x = example()
			x.Nodes[i].Properties[j].Name += "x"
			isSame(t, example(), x, false)
			x = example()
			x.Nodes[i].Properties[j].Value += "x"
			isSame(t, example(), x, false)
		}
	}
}

// TestSameOfEmptyLists checks that nil and an empty list are the same.
func TestSameOfEmptyLists(t *testing.T) {
	isSame(t, api.Tree{}, api.Tree{Nodes: []api.Node{}}, true)
	isSame(t, made(root()), made(api.Node{Parent: -1, Properties: []api.Property{}}), true)
}
