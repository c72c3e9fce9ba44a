package print_test

import (
	"math/rand"
	"strings"
	"testing"

	"bringup/api"
	"bringup/label"
	"bringup/print"
	"bringup/source"
	"bringup/token"
	"bringup/tree"
)

// comesBack checks that the text of a tree gives it again.
func comesBack(t *testing.T, x api.Tree) {
	t.Helper()
	s, e := print.Tree(x)
	if e != api.OK || len(s) > api.MaxText {
		t.Fatalf("%.300v: error %d, %d bytes", x, e, len(s))
	}
	l, place, e := source.Read(s, 0)
	if e != api.OK {
		t.Fatalf("%.300v: %.300q: error %d of source at %v", x, s, e, place)
	}
	y, labels, place, e := label.Build(l)
	if e != api.OK {
		t.Fatalf("%.300v: %.300q: error %d of label at %v", x, s, e, place)
	}
	if !tree.Same(x, y) || len(labels) > 0 {
		t.Errorf("%.300v: %.300q: %.300v, %v", x, s, y, labels)
	}
}

func TestTreesComeBack(t *testing.T) {
	comesBack(t, made(root()))
	comesBack(t, made(root(property("p", "\x00\x00\x00\x10"))))
	comesBack(t, made(root(property("p", ""), property("q", "a\"\\\x00// b\x00/* */\x00"), property("r", "\x00\x00\x00\x00\xff\xff\xff\xff"), property("s", "\x00\xff"))))
	comesBack(t, made(root(), node(0, "B", property("p", "")), node(0, "a"), node(2, "a"), node(3, "b@0,1"), node(2, "b"), node(0, "a-b")))
	// These names are words of the language elsewhere.
	comesBack(t, made(root(property("delete-node", ""), property("include", "include\x00")), node(0, "delete-property"), node(0, "include")))
	comesBack(t, made(root(property("#", ""), property("#-?+.,", ""), property("_", "")), node(0, "_"), node(0, "a#@?+-.,")))
	name := strings.Repeat("n", api.MaxName)
	comesBack(t, made(root(property(name, "")), node(0, name, property(name, "\xff"))))
}

func TestPhandlesComeBack(t *testing.T) {
	comesBack(t, made(root(property("phandle", "\x00\x00\x00\x01"))))
	comesBack(t, made(root(property("phandle", "\x00\x10\x00\x00")), node(0, "a", property("phandle", "\x00\x0f\xff\xff")), node(0, "b", property("a", ""), property("phandle", "\x00\x00\x00\x01"), property("z", "")), node(0, "c")))
	// What looks like a reference to one is none.
	comesBack(t, made(root(property("p", "\x00\x00\x00\x02"), property("q", "&a\x00"), property("r", "/a\x00")), node(0, "a", property("phandle", "\x00\x00\x00\x02"))))
	// Each node has one, and those that are greater may come first.
	x := made(root())
	for i := range api.MaxNodes - 1 {
		x.Nodes = append(x.Nodes, node(0, "n"+string([]byte{'a' + byte(i/26), 'a' + byte(i%26)}), property("phandle", string([]byte{0, 0, 1, byte(200 - i)}))))
	}
	comesBack(t, x)
}

func TestAllShortValuesComeBack(t *testing.T) {
	x := made(root())
	for length := range 5 {
		values(length, func(v string) {
			n := &x.Nodes[len(x.Nodes)-1]
			n.Properties = append(n.Properties, property("p"+string([]byte{'a' + byte(len(n.Properties))}), v))
			if len(n.Properties) < api.MaxProperties {
				return
			}
			if len(x.Nodes) == 12 {
				comesBack(t, x)
				x = made(root())
				return
			}
			x.Nodes = append(x.Nodes, node(0, "n"+string([]byte{'a' + byte(len(x.Nodes))})))
		})
	}
	comesBack(t, x)
}

func TestManyTreesComeBack(t *testing.T) {
	random := rand.New(rand.NewSource(5))
	for range 1500 {
		comesBack(t, randomTree(random, 60, 30, 60))
	}
	// With phandles, which are all different.
	for range 500 {
		x := clone(randomTree(random, 30, 20, 20))
		for i, n := range x.Nodes {
			if random.Intn(2) == 0 {
				y, e := tree.Set(x, tree.Path(x, i), "phandle", string([]byte{0, byte(random.Intn(16)), byte(random.Intn(256)), byte(200 - i)}))
				if e != api.OK {
					t.Fatalf("%v, %v: error %d", x, n, e)
				}
				x = y
			}
		}
		comesBack(t, x)
	}
}

// TestTheDeepestTreeComesBack has MaxDepth levels below the root.
func TestTheDeepestTreeComesBack(t *testing.T) {
	x := made(root(property("p", "")))
	for i := range api.MaxDepth {
		x.Nodes = append(x.Nodes, node(i, "n", property("p", "\x00\x00\x00\x01")))
	}
	comesBack(t, x)
}

// TestTheLongestTextComesBack has MaxText bytes; one byte more, and it is still written, but cannot be read.
func TestTheLongestTextComesBack(t *testing.T) {
	x := made(root())
	for i := range 3 {
		n := node(0, "n"+string([]byte{'a' + byte(i)}))
		for k := range api.MaxProperties {
			n.Properties = append(n.Properties, property("p"+string([]byte{'a' + byte(k)}), strings.Repeat("v", 200)+"\x00"))
		}
		x.Nodes = append(x.Nodes, n)
	}
	s, _ := print.Tree(x)
	for rest := api.MaxText - len(s); rest > 0; {
		for i := range x.Nodes {
			for k := range x.Nodes[i].Properties {
				p := &x.Nodes[i].Properties[k]
				more := min(rest, api.MaxValue-len(p.Value))
				p.Value = strings.Repeat("v", more) + p.Value
				rest -= more
			}
		}
	}
	if s, e := print.Tree(x); e != api.OK || len(s) != api.MaxText {
		t.Fatalf("error %d, %d bytes", e, len(s))
	}
	comesBack(t, x)
	x.Nodes[1].Name += "x"
	s, e := print.Tree(x)
	if e != api.OK || s != nodeText(x, 0, "", "/") || len(s) != api.MaxText+1 {
		t.Errorf("error %d, %d bytes", e, len(s))
	}
	if _, _, e := source.Read(s, 0); e != api.ErrLimit {
		t.Errorf("error %d of source", e)
	}
}

// TestTheMostTokensComeBack has MaxTokens tokens in a text that is not too long.
func TestTheMostTokensComeBack(t *testing.T) {
	x := made(root())
	for k := range 23 {
		// These are 256 tokens each.
		x.Nodes[0].Properties = append(x.Nodes[0].Properties, property("p"+string([]byte{'a' + byte(k)}), strings.Repeat("\x00", 251)))
	}
	// These are 103, both nodes have 4 more each, and the end is one.
	x.Nodes = append(x.Nodes, node(0, "n", property("p", strings.Repeat("\x00", 98))))
	s, _ := print.Tree(x)
	l, _, e := token.Read(s, 0)
	if e != api.OK || len(l) != api.MaxTokens {
		t.Fatalf("error %d, %d tokens", e, len(l))
	}
	comesBack(t, x)
}
