package tree_test

import (
	"math"
	"slices"
	"strings"
	"testing"

	"bringup/api"
	"bringup/tree"
)

func hasPath(t *testing.T, x api.Tree, node int, want string) {
	t.Helper()
	if got := tree.Path(x, node); got != want {
		t.Errorf("%.300v: path of %d is %q, not %q", x, node, got, want)
	}
}

func finds(t *testing.T, x api.Tree, path string, node int, ok bool) {
	t.Helper()
	if got, gotOK := tree.Find(x, path); got != node || gotOK != ok {
		t.Errorf("%.300v: %.60q is %d, %v, not %d, %v", x, path, got, gotOK, node, ok)
	}
}

func hasChildren(t *testing.T, x api.Tree, node int, want ...int) {
	t.Helper()
	if got := tree.Children(x, node); !slices.Equal(got, want) {
		t.Errorf("%.300v: children of %d are %v, not %v", x, node, got, want)
	}
}

func hasValue(t *testing.T, x api.Tree, node int, name, value string, ok bool) {
	t.Helper()
	if got, gotOK := tree.Value(x, node, name); got != value || gotOK != ok {
		t.Errorf("%.300v: %.40q of %d is %q, %v, not %q, %v", x, name, node, got, gotOK, value, ok)
	}
}

// others are indices that no node of the example has.
var others = []int{math.MinInt, -2, -1, 4, 5, api.MaxNodes, math.MaxInt}

func TestPath(t *testing.T) {
	for i, want := range []string{"/", "/a", "/b", "/b/c"} {
		hasPath(t, example(), i, want)
	}
	for _, i := range others {
		hasPath(t, example(), i, "")
	}
	hasPath(t, made(root()), 0, "/")
	hasPath(t, deep(api.MaxDepth), api.MaxDepth, strings.Repeat("/d", api.MaxDepth))
	hasPath(t, wide(api.MaxNodes-1), api.MaxNodes-1, "/n1118")
	x := made(root(), node(0, "a"), node(1, "x@1"), node(1, "y,2"), node(3, "x@1"), node(0, "b"), node(5, "x@1"))
	for i, want := range []string{"/", "/a", "/a/x@1", "/a/y,2", "/a/y,2/x@1", "/b", "/b/x@1"} {
		hasPath(t, x, i, want)
		finds(t, x, want, i, true)
	}
}

func TestFind(t *testing.T) {
	for i, path := range []string{"/", "/a", "/b", "/b/c"} {
		finds(t, example(), path, i, true)
	}
	for _, path := range []string{"", "//", "a", "b", "c", "/c", "a/", "/a/", "//a", "/b/", "b/c", "/b/c/", "//b/c", "/b//c", "/b/c/c", "/a/c", "/b/a", "/b/b", "/b/c ", " /b", "/A", "/bc", "/b/", "/b\x00", "/.", "/..", "/b/../a", "/x", strings.Repeat("/", 1<<20), strings.Repeat("/b", 1<<20)} {
		finds(t, example(), path, 0, false)
	}
	finds(t, made(root()), "/", 0, true)
	finds(t, made(root()), "", 0, false)
	finds(t, made(root()), "/a", 0, false)
	for n := range 2 * api.MaxDepth {
		path := strings.Repeat("/d", n)
		if n > 0 && n <= api.MaxDepth {
			finds(t, deep(api.MaxDepth), path, n, true)
		} else {
			finds(t, deep(api.MaxDepth), path, 0, false)
		}
	}
}

func TestChildren(t *testing.T) {
	hasChildren(t, example(), 0, 1, 2)
	hasChildren(t, example(), 1)
	hasChildren(t, example(), 2, 3)
	hasChildren(t, example(), 3)
	for _, i := range others {
		hasChildren(t, example(), i)
	}
	hasChildren(t, made(root()), 0)
	hasChildren(t, made(root()), -1)
	x := made(root(), node(0, "a"), node(1, "b"), node(2, "c"), node(1, "d"), node(0, "e"), node(5, "f"), node(0, "g"))
	hasChildren(t, x, 0, 1, 5, 7)
	hasChildren(t, x, 1, 2, 4)
	hasChildren(t, x, 5, 6)
	var all []int
	for i := 1; i < api.MaxNodes; i++ {
		all = append(all, i)
	}
	hasChildren(t, wide(api.MaxNodes-1), 0, all...)
}

func TestValue(t *testing.T) {
	hasValue(t, example(), 0, "#p", "1", true)
	hasValue(t, example(), 0, "q", "", true)
	hasValue(t, example(), 2, "p", "\x00", true)
	hasValue(t, example(), 3, "p", "2", true)
	hasValue(t, example(), 0, "p", "", false)
	hasValue(t, example(), 1, "p", "", false)
	hasValue(t, example(), 2, "q", "", false)
	for _, name := range []string{"", "#", "#pp", "r", "a", "@", "P", "p ", "p\x00", strings.Repeat("p", 1<<20)} {
		for i := range 4 {
			hasValue(t, example(), i, name, "", false)
		}
	}
	for _, i := range others {
		hasValue(t, example(), i, "p", "", false)
		hasValue(t, example(), i, "#p", "", false)
	}
	x := made(root(many(api.MaxProperties)...))
	for i, p := range x.Nodes[0].Properties {
		v := strings.Repeat(string([]byte{byte(i)}), api.MaxValue-i)
		x.Nodes[0].Properties[i].Value = v
		hasValue(t, x, 0, p.Name, v, true)
		hasValue(t, x, 0, p.Name+"0", "", false)
		hasValue(t, x, 0, p.Name[:4], "", false)
	}
}

// TestTreesThatAreNotValid checks that these have no paths, nodes, children and values.
func TestTreesThatAreNotValid(t *testing.T) {
	trees := []api.Tree{{}, made(node(0, ""), node(0, "a", property("p", "v")))}
	for _, l := range defects() {
		for _, x := range l {
			trees = append(trees, x, joined(made(root()), x), joined(made(root(property("p", "v"))), x))
		}
	}
	for _, x := range trees {
		for i := -1; i <= len(x.Nodes); i++ {
			hasPath(t, x, i, "")
			hasChildren(t, x, i)
			for _, name := range []string{"", "a", "b", "p", "p1000", "@"} {
				hasValue(t, x, i, name, "", false)
			}
		}
		for _, path := range []string{"", "/", "/a", "/b", "/l", "/l/a", "/m", "/m/b", "/d", "/d/d", "/n1000"} {
			finds(t, x, path, 0, false)
		}
	}
}

func TestChildrenAreNewMemory(t *testing.T) {
	x := example()
	l := tree.Children(x, 0)
	l[0], l[1] = 7, 8
	hasChildren(t, x, 0, 1, 2)
	isSame(t, x, example(), true)
}
