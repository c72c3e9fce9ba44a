package print_test

import (
	"slices"
	"strings"
	"testing"

	"bringup/api"
	"bringup/print"
	"bringup/tree"
)

func node(parent int, name string, l ...api.Property) api.Node {
	return api.Node{Parent: parent, Name: name, Properties: l}
}

func root(l ...api.Property) api.Node { return node(-1, "", l...) }

func made(nodes ...api.Node) api.Tree { return api.Tree{Nodes: nodes} }

func property(name, value string) api.Property { return api.Property{Name: name, Value: value} }

// clone returns a tree that shares no memory with another one.
func clone(t api.Tree) api.Tree {
	out := api.Tree{Nodes: slices.Clone(t.Nodes)}
	for i, n := range out.Nodes {
		out.Nodes[i].Properties = slices.Clone(n.Properties)
	}
	return out
}

// prints checks the text of a tree, which consists of the lines.
func prints(t *testing.T, x api.Tree, lines ...string) {
	t.Helper()
	before, want := clone(x), strings.Join(lines, "\n")+"\n"
	if got, e := print.Tree(x); e != api.OK || got != want {
		t.Errorf("%.300v: error %d, %q, not %q", x, e, got, want)
	}
	if !tree.Same(x, before) {
		t.Errorf("%.300v was changed", before)
	}
}

// fails checks that a tree has an error and no text.
func fails(t *testing.T, x api.Tree, want api.Errno) {
	t.Helper()
	before := clone(x)
	if got, e := print.Tree(x); e != want || got != "" {
		t.Errorf("%.300v: %.100q, error %d, not %d", x, got, e, want)
	}
	if !tree.Same(x, before) {
		t.Errorf("%.300v was changed", before)
	}
}

func TestExampleOfTheChapter(t *testing.T) {
	prints(t, made(root(property("p", "\x00\x00\x00\x10"))), "/ {", "\tp = <0x10>;", "};")
}

func TestTheRootAlone(t *testing.T) {
	prints(t, made(root()), "/ {", "};")
	prints(t, made(api.Node{Parent: -1, Properties: []api.Property{}}), "/ {", "};")
}

func TestProperties(t *testing.T) {
	prints(t, made(root(property("p", ""))), "/ {", "\tp;", "};")
	prints(t, made(root(property("p", "a\x00"))), "/ {", "\tp = \"a\";", "};")
	prints(t, made(root(property("p", "\x00"))), "/ {", "\tp = [0];", "};")
	prints(t, made(root(property("#p", ""), property("B", "b\x00c\x00"), property("_", "\x01\x02\x03"), property("a", "\x00\x00\x00\x00\xff\xff\xff\xff"), property("a-b,c", ""), property("a.+?#", "\x00\x00\x00\x01"))),
		"/ {", "\t#p;", "\tB = \"b\", \"c\";", "\t_ = [1 2 3];", "\ta = <0 0xffffffff>;", "\ta-b,c;", "\ta.+?# = <1>;", "};")
	// A name that is as long as it can be.
	name := strings.Repeat("n", api.MaxName)
	prints(t, made(root(property(name, "")), node(0, name, property(name, "\xff"))), "/ {", "\t"+name+";", "\t"+name+" {", "\t\t"+name+" = [0xff];", "\t};", "};")
}

func TestPropertiesComeBeforeChildren(t *testing.T) {
	x := made(root(property("z", "")), node(0, "a", property("z", "z\x00")), node(1, "a"), node(0, "b", property("a", ""), property("b", "")))
	prints(t, x, "/ {", "\tz;", "\ta {", "\t\tz = \"z\";", "\t\ta {", "\t\t};", "\t};", "\tb {", "\t\ta;", "\t\tb;", "\t};", "};")
	// A child may have the name of a property.
	prints(t, made(root(property("n", "n\x00")), node(0, "n")), "/ {", "\tn = \"n\";", "\tn {", "\t};", "};")
}

func TestNodesEndBeforeTheNextOnes(t *testing.T) {
	prints(t, made(root(), node(0, "a"), node(0, "b"), node(0, "c")), "/ {", "\ta {", "\t};", "\tb {", "\t};", "\tc {", "\t};", "};")
	prints(t, made(root(), node(0, "a"), node(1, "b"), node(1, "c")), "/ {", "\ta {", "\t\tb {", "\t\t};", "\t\tc {", "\t\t};", "\t};", "};")
	// One node ends several ones that are open.
	prints(t, made(root(), node(0, "a"), node(1, "b"), node(2, "c"), node(1, "d"), node(4, "e"), node(5, "f"), node(0, "g@1")),
		"/ {", "\ta {", "\t\tb {", "\t\t\tc {", "\t\t\t};", "\t\t};", "\t\td {", "\t\t\te {", "\t\t\t\tf {", "\t\t\t\t};", "\t\t\t};", "\t\t};", "\t};", "\tg@1 {", "\t};", "};")
}

func TestNodesAtEachDepth(t *testing.T) {
	for depth := range api.MaxDepth + 1 {
		x := made(root(property("p", "0\x00")))
		lines := []string{"/ {", "\tp = \"0\";"}
		for i := range depth {
			tabs := strings.Repeat("\t", i+1)
			x.Nodes = append(x.Nodes, node(i, "n", property("p", string([]byte{'1' + byte(i), 0})), property("q", "")))
			lines = append(lines, tabs+"n {", tabs+"\tp = \""+string([]byte{'1' + byte(i)})+"\";", tabs+"\tq;")
		}
		for i := depth; i >= 0; i-- {
			lines = append(lines, strings.Repeat("\t", i)+"};")
		}
		prints(t, x, lines...)
	}
}

// TestTheGreatestTree has as many nodes, properties and bytes as there can be, and a text that could not be read.
func TestTheGreatestTree(t *testing.T) {
	x, lines := made(root()), []string{"/ {"}
	fill := func(n *api.Node, tabs string) {
		for i := range api.MaxProperties {
			name := "p" + string([]byte{'a' + byte(i)})
			n.Properties = append(n.Properties, property(name, strings.Repeat("\xff", api.MaxValue)))
			lines = append(lines, tabs+name+" = <"+strings.TrimSuffix(strings.Repeat("0xffffffff ", api.MaxValue/4), " ")+">;")
		}
	}
	fill(&x.Nodes[0], "\t")
	for i := range api.MaxNodes - 1 {
		x.Nodes = append(x.Nodes, node(0, "n"+string([]byte{'a' + byte(i/26), 'a' + byte(i%26)})))
		lines = append(lines, "\t"+x.Nodes[i+1].Name+" {")
		fill(&x.Nodes[i+1], "\t\t")
		lines = append(lines, "\t};")
	}
	prints(t, x, append(lines, "};")...)
}

func TestTreesThatAreNotValid(t *testing.T) {
	fails(t, api.Tree{}, api.ErrLimit)
	fails(t, api.Tree{Nodes: []api.Node{}}, api.ErrLimit)
	fails(t, api.Tree{Nodes: make([]api.Node, api.MaxNodes+1)}, api.ErrLimit)
	fails(t, made(root(property("p", strings.Repeat("v", api.MaxValue+1)))), api.ErrLimit)
	fails(t, made(root(make([]api.Property, api.MaxProperties+1)...)), api.ErrLimit)
	fails(t, made(api.Node{}), api.ErrInvalid)
	fails(t, made(node(-1, "a")), api.ErrInvalid)
	fails(t, made(node(-1, "/")), api.ErrInvalid)
	fails(t, made(root(), node(-1, "a")), api.ErrInvalid)
	fails(t, made(root(), node(1, "a")), api.ErrInvalid)
	fails(t, made(root(), node(0, "a"), node(-2, "b")), api.ErrInvalid)
	fails(t, made(root(), node(0, "a"), node(1<<40, "b")), api.ErrInvalid)
	fails(t, made(root(), node(0, "")), api.ErrInvalid)
	fails(t, made(root(), node(0, "a b")), api.ErrInvalid)
	fails(t, made(root(property("a@b", ""))), api.ErrInvalid)
	fails(t, made(root(property("", ""))), api.ErrInvalid)
	fails(t, made(root(), node(0, "b"), node(0, "a")), api.ErrOrder)
	fails(t, made(root(), node(0, "a"), node(0, "b"), node(1, "c")), api.ErrOrder)
	fails(t, made(root(property("q", ""), property("p", ""))), api.ErrOrder)
	fails(t, made(root(property("p", ""), property("p", ""))), api.ErrOrder)
	fails(t, made(root(), node(0, "a"), node(0, "a")), api.ErrDuplicate)
	deep := made(root())
	for i := range api.MaxDepth + 1 {
		deep.Nodes = append(deep.Nodes, node(i, "n"))
	}
	fails(t, deep, api.ErrRange)
	// Of several errors it is the first one that tree.Check names.
	fails(t, made(root(property("q", ""), property("p", "")), node(0, "a"), node(0, "a")), api.ErrOrder)
	fails(t, made(root(property("q", ""), property("p", "")), node(0, "")), api.ErrInvalid)
	fails(t, made(root(property("p", strings.Repeat("v", api.MaxValue+1))), node(0, "")), api.ErrLimit)
	fails(t, made(append(deep.Nodes, node(api.MaxDepth, "n"))...), api.ErrDuplicate)
}
