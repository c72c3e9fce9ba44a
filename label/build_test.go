package label_test

import (
	"slices"
	"strconv"
	"testing"

	"bringup/api"
	"bringup/label"
	"bringup/source"
	"bringup/tree"
)

// read returns the definitions of a text.
func read(t *testing.T, text string) []api.Definition {
	t.Helper()
	l, p, e := source.Read(text, 3)
	if e != api.OK {
		t.Fatalf("%.200q: error %d of source at %v", text, e, p)
	}
	return l
}

// shown returns a line for each node, with its path and properties, and then one for each label, with the path of its node.
func shown(x api.Tree, labels []api.Labelled) []string {
	var out []string
	for i, n := range x.Nodes {
		line := tree.Path(x, i)
		for _, p := range n.Properties {
			line += " " + p.Name + "=" + strconv.Quote(p.Value)
		}
		out = append(out, line)
	}
	for _, l := range labels {
		out = append(out, "&"+l.Label+" "+tree.Path(x, l.Node))
	}
	return out
}

// gives checks what definitions give, as shown shows it.
func gives(t *testing.T, l []api.Definition, want ...string) {
	t.Helper()
	x, labels, p, e := label.Build(l)
	if e != api.OK || p != (api.Position{}) {
		t.Errorf("%.500v: error %d at %v", l, e, p)
	} else if e := tree.Check(x); e != api.OK {
		t.Errorf("%.500v: error %d of tree.Check", l, e)
	} else if got := shown(x, labels); !slices.Equal(got, want) {
		t.Errorf("%.500v: %q, not %q", l, got, want)
	}
}

// builds checks what the definitions of a text give.
func builds(t *testing.T, text string, want ...string) {
	t.Helper()
	gives(t, read(t, text), want...)
}

// alike checks that texts give the same tree and the same labels.
func alike(t *testing.T, texts ...string) {
	t.Helper()
	x, labels, _, e := label.Build(read(t, texts[0]))
	if e != api.OK {
		t.Errorf("%q: error %d", texts[0], e)
	}
	for _, s := range texts {
		builds(t, s, shown(x, labels)...)
	}
}

func TestExampleOfTheChapter(t *testing.T) {
	text := "/ { a: x { }; y { p = <&a 5>; q = &a; }; };"
	builds(t, text, "/", `/x phandle="\x00\x00\x00\x01"`, `/y p="\x00\x00\x00\x01\x00\x00\x00\x05" q="/x\x00"`, "&a /x")
	got, labels, _, _ := label.Build(read(t, text))
	want := api.Tree{Nodes: []api.Node{
		{Parent: -1},
		{Parent: 0, Name: "x", Properties: []api.Property{{Name: "phandle", Value: "\x00\x00\x00\x01"}}},
		{Parent: 0, Name: "y", Properties: []api.Property{{Name: "p", Value: "\x00\x00\x00\x01\x00\x00\x00\x05"}, {Name: "q", Value: "/x\x00"}}},
	}}
	if !tree.Same(got, want) || !slices.Equal(labels, []api.Labelled{{Label: "a", Node: 1}}) {
		t.Errorf("%v, %v", got, labels)
	}
}

func TestTheRootIsAlwaysThere(t *testing.T) {
	gives(t, nil, "/")
	gives(t, []api.Definition{}, "/")
	builds(t, "", "/")
	builds(t, "/ { };", "/")
	builds(t, "/ { }; / { };", "/")
	builds(t, "r: / { };", "/", "&r /")
	builds(t, "/ { p; };", `/ p=""`)
}

func TestNodesAreInTheOrderOfTheTree(t *testing.T) {
	builds(t, "/ { b { z { }; y { }; }; a { }; B { }; a-b { }; a@1 { }; a { x { }; }; };", "/", "/B", "/a", "/a/x", "/a-b", "/a@1", "/b", "/b/y", "/b/z")
	builds(t, "/ { a-b { c { }; }; a { c { }; }; };", "/", "/a", "/a/c", "/a-b", "/a-b/c")
	builds(t, "/ { a { a { a { }; }; }; };", "/", "/a", "/a/a", "/a/a/a")
	builds(t, "/ { a { b { }; }; b { a { }; }; };", "/", "/a", "/a/b", "/b", "/b/a")
	// Siblings are made in the reverse order, with what is below them.
	builds(t, "/ { c { f { }; e { }; }; b { d { }; }; a { }; };", "/", "/a", "/b", "/b/d", "/c", "/c/e", "/c/f")
}

func TestPropertiesAreInTheirOrder(t *testing.T) {
	builds(t, "/ { q; p; #p; P; _; p-1; p1; n { z; y; }; };", `/ #p="" P="" _="" p="" p-1="" p1="" q=""`, `/n y="" z=""`)
	// Properties may have the names of children.
	builds(t, "/ { n = <1>; n { n = <2>; }; phandle { }; };", `/ n="\x00\x00\x00\x01"`, `/n n="\x00\x00\x00\x02"`, "/phandle")
}

func TestPropertiesThatAreSetAgain(t *testing.T) {
	builds(t, "/ { p = <1>; p = \"s\"; };", `/ p="s\x00"`)
	builds(t, "/ { p = <1>; p; };", `/ p=""`)
	builds(t, "/ { p; q; p = [1 2]; };", `/ p="\x01\x02" q=""`)
	alike(t, "/ { p = <2>; q = <3>; };", "/ { q = <1>; p = <1>; q = <3>; p = <2>; };", "/ { p = <1>; }; / { q = <3>; p = <2>; };", "/ { p = <1>; }; / { q = <4>; }; / { p = <2>; q = <3>; };", "/ { p; /delete-property/ p; q = <3>; p = <2>; };")
	// What was there before does not matter, whatever it was.
	builds(t, "/ { p = <&none>; p = &none; p = <1>; };", `/ p="\x00\x00\x00\x01"`)
	builds(t, "/ { phandle; phandle = <5>; };", `/ phandle="\x00\x00\x00\x05"`)
	builds(t, "a: / { p = <&a>; p = <7>; };", `/ p="\x00\x00\x00\a"`, "&a /")
}

func TestPropertiesThatAreDeleted(t *testing.T) {
	builds(t, "/ { p; /delete-property/ p; };", "/")
	builds(t, "/ { p; q; r; /delete-property/ q; };", `/ p="" r=""`)
	builds(t, "/ { p; }; / { q; /delete-property/ p; };", `/ q=""`)
	builds(t, "/ { n { p; q; }; p; }; / { n { /delete-property/ p; }; };", `/ p=""`, `/n q=""`)
	builds(t, "/ { p = <1>; /delete-property/ p; p = <2>; };", `/ p="\x00\x00\x00\x02"`)
	builds(t, "/ { phandle = <1>; n { phandle = <1>; }; /delete-property/ phandle; };", "/", `/n phandle="\x00\x00\x00\x01"`)
	builds(t, "/ { p = <&none>; q = &none; r = [0]; phandle = \"x\"; /delete-property/ p; /delete-property/ q; /delete-property/ phandle; };", `/ r="\x00"`)
}

func TestNodesThatAreOpenedAgain(t *testing.T) {
	want := []string{`/ r=""`, `/a p="" q=""`, "/a/b", "/a/c", "&l /a"}
	for _, s := range []string{
		"/ { r; l: a { p; q; b { }; c { }; }; };",
		"/ { l: a { p; b { }; }; }; / { r; a { q; c { }; }; };",
		"/ { l: a { p; b { }; }; a { q; c { }; }; r; };",
		"/ { l: a { p; b { }; }; }; &l { q; c { }; }; / { r; };",
		"/ { a { p; b { }; }; l: a { q; c { }; }; r; };",
		"/ { l: a { }; }; &l { b { }; }; &l { c { }; p; }; &l { q; }; / { r; };",
	} {
		builds(t, s, want...)
	}
	builds(t, "r: / { l: a { }; }; &r { r; a { p; q; }; }; &l { c { }; b { }; };", append(want, "&r /")...)
	alike(t, "/ { a { b { c { p; q; }; }; }; };", "/ { a { b { c { p; }; }; }; }; / { a { b { c { q; }; }; }; };", "/ { a { }; a { b { }; }; a { b { c { q; }; }; b { c { p; }; }; }; };")
}

func TestNodesThatAreOpenedByLabel(t *testing.T) {
	builds(t, "/ { a { b { l: c { }; }; }; }; &l { p; d { }; };", "/", "/a", "/a/b", `/a/b/c p=""`, "/a/b/c/d", "&l /a/b/c")
	builds(t, "r: / { }; &r { p; }; &r { a { }; };", `/ p=""`, "/a", "&r /")
	builds(t, "/ { l: a { }; }; &l { p; m: b { q; }; }; &m { r; }; / { s; };", `/ s=""`, `/a p=""`, `/a/b q="" r=""`, "&l /a", "&m /a/b")
	// After the end of a node that a label opened no node is open, and after that of its child it is open again.
	builds(t, "/ { l: a { b { }; }; }; &l { b { p; }; q; }; / { r; };", `/ r=""`, `/a q=""`, `/a/b p=""`, "&l /a")
	// Labels are known from where they are given on, in the same body, too.
	gives(t, placed(begin("", "/"), begin("l", "a"), end(), end(), begin("m", "&l"), prop("p"), end(), begin("", "&m"), prop("q"), end()), "/", `/a p="" q=""`, "&l /a", "&m /a")
}

func TestNodesThatAreRemoved(t *testing.T) {
	builds(t, "/ { a { }; /delete-node/ a; };", "/")
	builds(t, "/ { a { }; b { }; c { }; /delete-node/ b; };", "/", "/a", "/c")
	builds(t, "/ { a { b { c { p; }; }; d { }; }; e { }; /delete-node/ a; };", "/", "/e")
	builds(t, "/ { a { b { c { p; }; }; d { }; /delete-node/ b; }; };", "/", "/a", "/a/d")
	builds(t, "/ { l: a { b { }; }; }; /delete-node/ &l;", "/")
	builds(t, "/ { a { l: b { c { }; }; d { }; }; }; /delete-node/ &l;", "/", "/a", "/a/d")
	builds(t, "/ { a { }; }; / { /delete-node/ a; };", "/")
	builds(t, "/ { l: a { b { }; }; }; &l { /delete-node/ b; };", "/", "/a", "&l /a")
	// What has the same name elsewhere stays.
	builds(t, "/ { a { a { a { }; }; }; b { a { }; }; }; / { a { /delete-node/ a; }; };", "/", "/a", "/b", "/b/a")
	// A node that is made again has nothing of the earlier one.
	builds(t, "/ { l: a { p; b { }; }; /delete-node/ a; a { q; }; };", "/", `/a q=""`)
	builds(t, "/ { a { phandle = <1>; }; /delete-node/ a; a { }; b { phandle = <1>; }; };", "/", "/a", `/b phandle="\x00\x00\x00\x01"`)
	// Errors in what is gone are gone.
	builds(t, "/ { a { p = <&none>, &none; phandle; b { phandle = <0>; q = \"\", <&none>; }; }; /delete-node/ a; };", "/")
}

func TestLabels(t *testing.T) {
	builds(t, "c: / { b: x { }; a: y { d: z { }; }; };", "/", "/x", "/y", "/y/z", "&a /y", "&b /x", "&c /", "&d /y/z")
	builds(t, "B: / { _: x { }; a1: y { }; a: z { }; };", "/", "/x", "/y", "/z", "&B /", "&_ /x", "&a /z", "&a1 /y")
	// A node can have several ones.
	builds(t, "/ { b: x { }; a: x { }; c: x { }; };", "/", "/x", "&a /x", "&b /x", "&c /x")
	builds(t, "a: / { }; c: / { }; b: / { };", "/", "&a /", "&b /", "&c /")
	// The index is the one in the tree that is complete.
	builds(t, "/ { a: z { }; b: y { c: x { }; }; d: a { }; };", "/", "/a", "/y", "/y/x", "/z", "&a /z", "&b /y", "&c /y/x", "&d /a")
	_, labels, _, _ := label.Build(read(t, "/ { a: z { }; b: y { c: x { }; }; /delete-node/ y; r: a { }; }; m: / { };"))
	if want := []api.Labelled{{Label: "a", Node: 2}, {Label: "m", Node: 0}, {Label: "r", Node: 1}}; !slices.Equal(labels, want) {
		t.Errorf("%v, not %v", labels, want)
	}
}

func TestLabelsThatAreGivenAgain(t *testing.T) {
	// To the same node.
	builds(t, "a: / { }; a: / { };", "/", "&a /")
	builds(t, "/ { a: x { }; a: x { }; }; / { a: x { p; }; };", "/", `/x p=""`, "&a /x")
	gives(t, placed(begin("", "/"), begin("a", "x"), end(), end(), begin("a", "&a"), end()), "/", "/x", "&a /x")
	// To another node, when the first one is gone.
	builds(t, "/ { a: x { }; /delete-node/ x; a: y { }; };", "/", "/y", "&a /y")
	builds(t, "/ { a: x { }; }; /delete-node/ &a; / { a: y { p; }; }; &a { q; };", "/", `/y p="" q=""`, "&a /y")
	builds(t, "/ { x { a: y { b: z { }; }; }; /delete-node/ x; b: y { }; }; a: / { };", "/", "/y", "&a /", "&b /y")
	builds(t, "/ { x { a: y { b: z { }; }; /delete-node/ y; a: z { b: z { }; }; }; };", "/", "/x", "/x/z", "/x/z/z", "&a /x/z", "&b /x/z/z")
	// To a node that has the name and the place of the one that is gone.
	builds(t, "/ { a: x { }; /delete-node/ x; x { }; a: y { }; };", "/", "/x", "/y", "&a /y")
	builds(t, "/ { a: x { }; /delete-node/ x; a: x { }; };", "/", "/x", "&a /x")
	builds(t, "/ { a: x { }; /delete-node/ x; a: y { }; /delete-node/ y; a: z { }; };", "/", "/z", "&a /z")
	// What stays does not lose its labels.
	builds(t, "r: / { a: x { b: y { }; c: z { }; }; d: w { }; }; &a { /delete-node/ y; };", "/", "/w", "/x", "/x/z", "&a /x", "&c /x/z", "&d /w", "&r /")
	builds(t, "r: / { a: x { b: y { }; c: z { }; }; d: w { }; }; /delete-node/ &a;", "/", "/w", "&d /w", "&r /")
}

// TestLabelsDoNotOccurInTheTree checks that they and the positions make no difference.
func TestLabelsDoNotOccurInTheTree(t *testing.T) {
	a, _, _, _ := label.Build(read(t, "a: / { b: x { p; }; };"))
	b, _, _, _ := label.Build(read(t, "\n/ {\n x { p; }; };"))
	c, _, _, _ := label.Build(read(t, "x: / { a: x { }; c: x { }; }; &c { p; };"))
	if !tree.Same(a, b) || !tree.Same(a, c) {
		t.Errorf("%v, %v, %v", a, b, c)
	}
}

// TestArgumentsStay checks that definitions are neither changed nor shared.
func TestArgumentsStay(t *testing.T) {
	text := "r: / { a: x { p = <1 &a>, \"s\", [7], &a; }; y { }; /delete-node/ y; z { p; /delete-property/ p; p = <&r>; }; };"
	l, whole := read(t, text), read(t, text)
	want := []string{`/ phandle="\x00\x00\x00\x01"`, `/x p="\x00\x00\x00\x01\x00\x00\x00\x02s\x00\a/x\x00" phandle="\x00\x00\x00\x02"`, `/z p="\x00\x00\x00\x01"`, "&a /x", "&r /"}
	x, labels, _, _ := label.Build(l)
	if !source.Same(l, whole) {
		t.Errorf("%v, not %v", l, whole)
	}
	for i := range x.Nodes {
		x.Nodes[i] = api.Node{Name: "spoilt", Properties: x.Nodes[i].Properties}
		for j := range x.Nodes[i].Properties {
			x.Nodes[i].Properties[j] = api.Property{Name: "spoilt"}
		}
	}
	for i := range labels {
		labels[i] = api.Labelled{Label: "spoilt"}
	}
	if !source.Same(l, whole) {
		t.Errorf("%v, not %v", l, whole)
	}
	gives(t, l, want...)
}
