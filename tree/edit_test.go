package tree_test

import (
	"reflect"
	"strings"
	"testing"

	"bringup/api"
	"bringup/tree"
)

// change is a call of one of the four functions that make a tree of another one.
type change func(api.Tree) (api.Tree, api.Errno)

func add(path, name string) change {
	return func(x api.Tree) (api.Tree, api.Errno) { return tree.Add(x, path, name) }
}

func set(path, name, value string) change {
	return func(x api.Tree) (api.Tree, api.Errno) { return tree.Set(x, path, name, value) }
}

func unset(path, name string) change {
	return func(x api.Tree) (api.Tree, api.Errno) { return tree.Delete(x, path, name) }
}

func remove(path string) change {
	return func(x api.Tree) (api.Tree, api.Errno) { return tree.Remove(x, path) }
}

// makes checks what a change makes of a tree, and that the tree and the result do not depend on each other afterwards.
func makes(t *testing.T, x api.Tree, c change, want api.Tree, wantE api.Errno) {
	t.Helper()
	before := clone(x)
	got, e := c(x)
	if e != wantE || !tree.Same(got, want) {
		t.Errorf("%.400v: %.400v, error %d, not %.400v, error %d", before, got, e, want, wantE)
		return
	}
	if e == api.OK && tree.Check(got) != api.OK {
		t.Errorf("%.400v: %.400v is not valid: error %d", before, got, tree.Check(got))
	}
	for _, n := range got.Nodes {
		for j := range n.Properties {
			n.Properties[j] = property("written", "over")
		}
		_ = append(n.Properties, property("and", "on"))
	}
	for i := range got.Nodes {
		got.Nodes[i] = node(-7, "written")
	}
	_ = append(got.Nodes, node(-8, "on"))
	if !tree.Same(x, before) {
		t.Errorf("%.400v was changed: %.400v", before, x)
	}
}

func fails(t *testing.T, x api.Tree, c change, want api.Errno) {
	t.Helper()
	makes(t, x, c, api.Tree{}, want)
}

func TestExample(t *testing.T) {
	x := made(root())
	for _, c := range []change{add("/", "b"), add("/", "a"), add("/b", "c")} {
		got, e := c(x)
		if e != api.OK {
			t.Fatalf("%v: error %d", x, e)
		}
		x = got
	}
	isSame(t, x, made(root(), node(0, "a"), node(0, "b"), node(2, "c")), true)
	hasPath(t, x, 3, "/b/c")
}

func TestAdd(t *testing.T) {
	p := property("p", "v")
	makes(t, made(root()), add("/", "a"), made(root(), node(0, "a")), api.OK)
	makes(t, made(root(p)), add("/", "p"), made(root(p), node(0, "p")), api.OK)
	x := made(root(p), node(0, "b", p), node(1, "b"), node(2, "c", p), node(1, "d"), node(0, "d"), node(5, "e", p))
	for _, c := range []struct {
		path, name string
		want       api.Tree
	}{
		{"/", "a", made(root(p), node(0, "a"), node(0, "b", p), node(2, "b"), node(3, "c", p), node(2, "d"), node(0, "d"), node(6, "e", p))},
		{"/", "c", made(root(p), node(0, "b", p), node(1, "b"), node(2, "c", p), node(1, "d"), node(0, "c"), node(0, "d"), node(6, "e", p))},
		{"/", "e", made(root(p), node(0, "b", p), node(1, "b"), node(2, "c", p), node(1, "d"), node(0, "d"), node(5, "e", p), node(0, "e"))},
		{"/b", "a", made(root(p), node(0, "b", p), node(1, "a"), node(1, "b"), node(3, "c", p), node(1, "d"), node(0, "d"), node(6, "e", p))},
		{"/b", "c", made(root(p), node(0, "b", p), node(1, "b"), node(2, "c", p), node(1, "c"), node(1, "d"), node(0, "d"), node(6, "e", p))},
		{"/b", "e", made(root(p), node(0, "b", p), node(1, "b"), node(2, "c", p), node(1, "d"), node(1, "e"), node(0, "d"), node(6, "e", p))},
		{"/b/b", "a", made(root(p), node(0, "b", p), node(1, "b"), node(2, "a"), node(2, "c", p), node(1, "d"), node(0, "d"), node(6, "e", p))},
		{"/b/b", "d", made(root(p), node(0, "b", p), node(1, "b"), node(2, "c", p), node(2, "d"), node(1, "d"), node(0, "d"), node(6, "e", p))},
		{"/b/b/c", "z", made(root(p), node(0, "b", p), node(1, "b"), node(2, "c", p), node(3, "z"), node(1, "d"), node(0, "d"), node(6, "e", p))},
		{"/b/d", "a", made(root(p), node(0, "b", p), node(1, "b"), node(2, "c", p), node(1, "d"), node(4, "a"), node(0, "d"), node(6, "e", p))},
		{"/d", "a", made(root(p), node(0, "b", p), node(1, "b"), node(2, "c", p), node(1, "d"), node(0, "d"), node(5, "a"), node(5, "e", p))},
		{"/d/e", "a", made(root(p), node(0, "b", p), node(1, "b"), node(2, "c", p), node(1, "d"), node(0, "d"), node(5, "e", p), node(6, "a"))},
	} {
		makes(t, x, add(c.path, c.name), c.want, api.OK)
	}
}

func TestAddErrors(t *testing.T) {
	for _, path := range []string{"", "a", "/c", "/a/", "//", "/b/c/d", "/b/a"} {
		fails(t, example(), add(path, "x"), api.ErrUnknown)
		fails(t, example(), add(path, "#"), api.ErrUnknown)
	}
	for _, name := range []string{"", "#a", "1", "@", "a b", "a/b", "/a", "x\x00", strings.Repeat("a", api.MaxName+1)} {
		for _, path := range []string{"/", "/a", "/b", "/b/c"} {
			fails(t, example(), add(path, name), api.ErrInvalid)
		}
	}
	fails(t, example(), add("/", "a"), api.ErrDuplicate)
	fails(t, example(), add("/", "b"), api.ErrDuplicate)
	fails(t, example(), add("/b", "c"), api.ErrDuplicate)
	makes(t, made(root()), add("/", strings.Repeat("a", api.MaxName)), made(root(), node(0, strings.Repeat("a", api.MaxName))), api.OK)
}

func TestAddAtLimits(t *testing.T) {
	path := strings.Repeat("/d", api.MaxDepth)
	makes(t, deep(api.MaxDepth-1), add(path[2:], "d"), deep(api.MaxDepth), api.OK)
	fails(t, deep(api.MaxDepth), add(path, "d"), api.ErrRange)
	makes(t, wide(api.MaxNodes-2), add("/", "n1118"), wide(api.MaxNodes-1), api.OK)
	full := wide(api.MaxNodes - 1)
	fails(t, full, add("/", "n1119"), api.ErrLimit)
	fails(t, full, add("/n1000", "a"), api.ErrLimit)
	// The errors in their order: the tree has as many nodes as it may, and one is as deep as it may be.
	for i := range api.MaxDepth - 1 {
		full.Nodes[i+2].Parent = i + 1
	}
	checks(t, full, api.OK)
	deepest := tree.Path(full, api.MaxDepth)
	fails(t, full, add(deepest, "a"), api.ErrRange)
	fails(t, full, add(deepest, "#"), api.ErrInvalid)
	fails(t, full, add(deepest+"/a", "#"), api.ErrUnknown)
	fails(t, full, add("/", "n1000"), api.ErrDuplicate)
	fails(t, full, add("/", "n1001"), api.ErrLimit)
	fails(t, full, add("/", "#"), api.ErrInvalid)
}

func TestSet(t *testing.T) {
	a, b, c, d, e := property("a", "1"), property("b", "2"), property("c", "3"), property("d", "4"), property("e", "5")
	makes(t, made(root()), set("/", "a", "1"), made(root(a)), api.OK)
	makes(t, made(root()), set("/", "a", ""), made(root(property("a", ""))), api.OK)
	makes(t, made(root(b, d)), set("/", "a", "1"), made(root(a, b, d)), api.OK)
	makes(t, made(root(b, d)), set("/", "c", "3"), made(root(b, c, d)), api.OK)
	makes(t, made(root(b, d)), set("/", "e", "5"), made(root(b, d, e)), api.OK)
	makes(t, made(root(b, d)), set("/", "b", "x"), made(root(property("b", "x"), d)), api.OK)
	makes(t, made(root(b, d)), set("/", "d", ""), made(root(b, property("d", ""))), api.OK)
	makes(t, made(root(b, d)), set("/", "d", "4"), made(root(b, d)), api.OK)
	makes(t, made(root(b)), set("/", "#a", "1"), made(root(property("#a", "1"), b)), api.OK)
	makes(t, made(root(b), node(0, "x", b), node(1, "y", b), node(0, "z", b)), set("/x", "a", "1"), made(root(b), node(0, "x", a, b), node(1, "y", b), node(0, "z", b)), api.OK)
	makes(t, made(root(b), node(0, "x", b), node(1, "y", b), node(0, "z", b)), set("/x/y", "b", "\x00\xff"), made(root(b), node(0, "x", b), node(1, "y", property("b", "\x00\xff")), node(0, "z", b)), api.OK)
}

func TestSetErrors(t *testing.T) {
	for _, path := range []string{"", "b", "/c", "/b/", "//"} {
		fails(t, example(), set(path, "p", "v"), api.ErrUnknown)
		fails(t, example(), set(path, "@", strings.Repeat("v", api.MaxValue+1)), api.ErrUnknown)
	}
	for _, name := range []string{"", "1", "@", "p@", "-", "p q", "/p", "p\x00", strings.Repeat("p", api.MaxName+1)} {
		for _, value := range []string{"", "v", strings.Repeat("v", api.MaxValue+1)} {
			fails(t, example(), set("/", name, value), api.ErrInvalid)
			fails(t, example(), set("/b/c", name, value), api.ErrInvalid)
			fails(t, made(root(many(api.MaxProperties)...)), set("/", name, value), api.ErrInvalid)
		}
	}
	for _, n := range []int{api.MaxValue + 1, 2 * api.MaxValue, 1 << 20} {
		fails(t, example(), set("/", "q", strings.Repeat("v", n)), api.ErrLimit)
		fails(t, example(), set("/a", "q", strings.Repeat("\x00", n)), api.ErrLimit)
	}
	longest := strings.Repeat("v", api.MaxValue)
	makes(t, made(root()), set("/", "p", longest), made(root(property("p", longest))), api.OK)
}

func TestSetOfManyProperties(t *testing.T) {
	full := many(api.MaxProperties)
	makes(t, made(root(full[:api.MaxProperties-1]...)), set("/", full[api.MaxProperties-1].Name, ""), made(root(full...)), api.OK)
	for _, name := range []string{"a", "p1005x", "z"} {
		fails(t, made(root(full...)), set("/", name, ""), api.ErrLimit)
		makes(t, made(root(full...), node(0, "a")), set("/a", name, ""), made(root(full...), node(0, "a", property(name, ""))), api.OK)
	}
	for i, p := range full {
		want := many(api.MaxProperties)
		want[i].Value = "v"
		makes(t, made(root(full...)), set("/", p.Name, "v"), made(root(want...)), api.OK)
		fails(t, made(root(full...)), set("/", p.Name, strings.Repeat("v", api.MaxValue+1)), api.ErrLimit)
	}
}

func TestDelete(t *testing.T) {
	a, b, c := property("a", "1"), property("b", ""), property("#c", "3")
	makes(t, made(root(a)), unset("/", "a"), made(root()), api.OK)
	makes(t, made(root(c, a, b)), unset("/", "#c"), made(root(a, b)), api.OK)
	makes(t, made(root(c, a, b)), unset("/", "a"), made(root(c, b)), api.OK)
	makes(t, made(root(c, a, b)), unset("/", "b"), made(root(c, a)), api.OK)
	makes(t, made(root(a), node(0, "x", a, b), node(1, "y", a)), unset("/x", "a"), made(root(a), node(0, "x", b), node(1, "y", a)), api.OK)
	makes(t, made(root(a), node(0, "x", a, b), node(1, "y", a)), unset("/x/y", "a"), made(root(a), node(0, "x", a, b), node(1, "y")), api.OK)
	for _, name := range []string{"", "p", "#", "#pp", "Q", "@", "1", "a", "b", strings.Repeat("q", 1<<20)} {
		fails(t, example(), unset("/", name), api.ErrUnknown)
		fails(t, example(), unset("/a", name), api.ErrUnknown)
	}
	for _, path := range []string{"", "b", "/c", "/b/", "//"} {
		fails(t, example(), unset(path, "p"), api.ErrUnknown)
	}
}

func TestRemove(t *testing.T) {
	p := property("p", "v")
	x := made(root(p), node(0, "b", p), node(1, "b"), node(2, "c", p), node(1, "d"), node(0, "d"), node(5, "e", p), node(0, "e"), node(7, "f"))
	for path, want := range map[string]api.Tree{
		"/b":     made(root(p), node(0, "d"), node(1, "e", p), node(0, "e"), node(3, "f")),
		"/b/b":   made(root(p), node(0, "b", p), node(1, "d"), node(0, "d"), node(3, "e", p), node(0, "e"), node(5, "f")),
		"/b/b/c": made(root(p), node(0, "b", p), node(1, "b"), node(1, "d"), node(0, "d"), node(4, "e", p), node(0, "e"), node(6, "f")),
		"/b/d":   made(root(p), node(0, "b", p), node(1, "b"), node(2, "c", p), node(0, "d"), node(4, "e", p), node(0, "e"), node(6, "f")),
		"/d":     made(root(p), node(0, "b", p), node(1, "b"), node(2, "c", p), node(1, "d"), node(0, "e"), node(5, "f")),
		"/d/e":   made(root(p), node(0, "b", p), node(1, "b"), node(2, "c", p), node(1, "d"), node(0, "d"), node(0, "e"), node(6, "f")),
		"/e":     made(root(p), node(0, "b", p), node(1, "b"), node(2, "c", p), node(1, "d"), node(0, "d"), node(5, "e", p)),
		"/e/f":   made(root(p), node(0, "b", p), node(1, "b"), node(2, "c", p), node(1, "d"), node(0, "d"), node(5, "e", p), node(0, "e")),
	} {
		makes(t, x, remove(path), want, api.OK)
	}
	makes(t, made(root(p), node(0, "a")), remove("/a"), made(root(p)), api.OK)
	for _, path := range []string{"", "b", "/c", "/b/", "//", "/b/c", "/b/b/d"} {
		fails(t, x, remove(path), api.ErrUnknown)
	}
	fails(t, x, remove("/"), api.ErrInvalid)
	fails(t, made(root()), remove("/"), api.ErrInvalid)
}

// TestErrorsOfTheTree checks that the error of Check comes first.
func TestErrorsOfTheTree(t *testing.T) {
	long := strings.Repeat("v", api.MaxValue+1)
	changes := []change{add("/", "x"), add("/", "a"), add("/x", "x"), add("/", ""), set("/", "p", "v"), set("/", "@", "v"), set("/", "p", long), set("/x", "p", "v"), unset("/", "p"), unset("/", "q"), unset("/x", "p"), remove("/"), remove("/a"), remove("/x")}
	for _, c := range changes {
		fails(t, api.Tree{}, c, api.ErrLimit)
		fails(t, made(node(0, "")), c, api.ErrInvalid)
		for e, l := range defects() {
			for _, x := range l {
				fails(t, x, c, e)
				fails(t, joined(made(root()), x), c, e)
			}
		}
	}
}

// TestSpareMemory checks that what lies behind the lists of an argument is not written over.
func TestSpareMemory(t *testing.T) {
	full := example()
	for _, c := range []change{add("/", "0a"), add("/", "c"), add("/a", "x"), add("/", "a0"), set("/", "r", "v"), set("/", "#a", "v"), set("/", "q", "v"), unset("/", "#p"), unset("/", "q"), remove("/a"), remove("/b"), remove("/b/c")} {
		x := clone(full)
		x.Nodes[0].Properties = append(x.Nodes[0].Properties, property("spare", "s"))[:2]
		x.Nodes = append(x.Nodes, node(9, "spare"))[:4]
		_, _ = c(x)
		isSame(t, x, full, true)
		if n, p := x.Nodes[:5][4], x.Nodes[0].Properties[:3][2]; !sameNode(n, node(9, "spare")) || p != property("spare", "s") {
			t.Errorf("behind the tree is %v, and behind its properties %v", n, p)
		}
	}
}

// TestEqualTreesAreEqualData checks that a tree does not show in what order it was made.
func TestEqualTreesAreEqualData(t *testing.T) {
	want := made(root(), node(0, "a", property("p", "v")), node(0, "b"))
	for _, l := range [][]change{
		{add("/", "a"), add("/", "b"), set("/a", "p", "v")},
		{add("/", "b"), add("/", "a"), set("/a", "p", "w"), set("/a", "p", "v")},
		{set("/", "q", "v"), add("/", "a"), set("/a", "p", "v"), add("/", "b"), unset("/", "q")},
		{add("/", "a"), add("/a", "c"), set("/a/c", "q", ""), remove("/a"), add("/", "a"), set("/a", "p", "v"), set("/a", "q", "v"), unset("/a", "q"), add("/", "b")},
	} {
		for _, x := range []api.Tree{made(root()), {Nodes: []api.Node{{Parent: -1, Properties: []api.Property{}}}}} {
			for _, c := range l {
				x, _ = c(x)
			}
			if !reflect.DeepEqual(x, want) {
				t.Errorf("%#v, not %#v", x, want)
			}
		}
	}
}
