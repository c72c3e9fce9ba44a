package label_test

import (
	"math"
	"slices"
	"strconv"
	"strings"
	"testing"

	"bringup/api"
	"bringup/label"
)

// cell is a cell as it is shown.
func cell(n int) string {
	s := strconv.Quote(string([]byte{byte(n >> 24), byte(n >> 16), byte(n >> 8), byte(n)}))
	return s[1 : len(s)-1]
}

// shows is a property with such cells as it is shown.
func shows(name string, l ...int) string {
	out := " " + name + "=\""
	for _, n := range l {
		out += cell(n)
	}
	return out + "\""
}

func TestPhandlesInTheOrderOfTheTree(t *testing.T) {
	// The order of the definitions, of the references and of the labels does not matter.
	for _, s := range []string{
		"/ { a: x { }; b: y { c: z { }; }; p = <&a &b &c>; };",
		"/ { b: y { c: z { }; }; a: x { }; p = <&a &b &c>; };",
		"/ { p = <&a &b &c>; b: y { c: z { }; }; a: x { }; };",
		"/ { p = <&a>, \"\", <&b 5>, <>, <&c>, <>; b: y { c: z { }; }; a: x { }; p = <&a &b &c>; };",
	} {
		builds(t, s, "/"+shows("p", 1, 2, 3), "/x"+shows("phandle", 1), "/y"+shows("phandle", 2), "/y/z"+shows("phandle", 3), "&a /x", "&b /y", "&c /y/z")
	}
	builds(t, "/ { a: z { }; c: x { }; b: y { }; p = <&a &b &c>; };", "/"+shows("p", 3, 2, 1), "/x"+shows("phandle", 1), "/y"+shows("phandle", 2), "/z"+shows("phandle", 3), "&a /z", "&b /y", "&c /x")
	builds(t, "r: / { a: a { p = <&r>; q = <&a>; }; p = <&a>; };", "/"+shows("p", 2)+shows("phandle", 1), "/a"+shows("p", 1)+shows("phandle", 2)+shows("q", 2), "&a /a", "&r /")
	// A node that is referred to in several places, and by several labels, has one phandle.
	builds(t, "/ { a: y { p = <&b &a>; }; b: y { }; c: x { p = <&a &c>; }; };", "/", "/x"+shows("p", 2, 1)+shows("phandle", 1), "/y"+shows("p", 2, 2)+shows("phandle", 2), "&a /y", "&b /y", "&c /x")
}

func TestPhandlesOnlyWhereCellsRefer(t *testing.T) {
	builds(t, "/ { a: x { }; b: y { }; c: z { }; p = <&b>; };", "/"+shows("p", 1), "/x", "/y"+shows("phandle", 1), "/z", "&a /x", "&b /y", "&c /z")
	builds(t, "/ { a: x { }; p = &a; };", `/ p="/x\x00"`, "/x", "&a /x")
	builds(t, "/ { a: x { }; p = \"&a\", \"a\", [0]; };", `/ p="&a\x00a\x00\x00"`, "/x", "&a /x")
	builds(t, "/ { a: x { }; p = <&a>; }; / { p = <0>; };", "/"+shows("p", 0), "/x", "&a /x")
	builds(t, "/ { a: x { }; p = <&a>; /delete-property/ p; };", "/", "/x", "&a /x")
	builds(t, "/ { a: x { }; y { p = <&a>; }; /delete-node/ y; };", "/", "/x", "&a /x")
	// Also to nodes of which a part says the path.
	builds(t, "/ { a: x { }; p = &a, <&a>, &a; };", `/ p="/x\x00\x00\x00\x00\x01/x\x00"`, "/x"+shows("phandle", 1), "&a /x")
	gives(t, placed(begin("", "/"), begin("a", "x"), end(), begin("b", "x"), end(), prop("p", cells(to("b"), to("a"), num(7), to("b"))), end()), "/"+shows("p", 1, 1, 7, 1), "/x"+shows("phandle", 1), "&a /x", "&b /x")
}

func TestLeastFreeNumbers(t *testing.T) {
	// Those that are written out, before and after, are not free.
	builds(t, "/ { a: v { }; w { phandle = <2>; }; b: x { }; y { phandle = <1>; }; c: z { phandle = <4>; d: z { }; }; p = <&a &b &c &d>; };",
		"/"+shows("p", 3, 5, 4, 6), "/v"+shows("phandle", 3), "/w"+shows("phandle", 2), "/x"+shows("phandle", 5), "/y"+shows("phandle", 1), "/z"+shows("phandle", 4), "/z/z"+shows("phandle", 6), "&a /v", "&b /x", "&c /z", "&d /z/z")
	// Phandles that are gone are free.
	builds(t, "/ { a: v { }; w { phandle = <1>; /delete-property/ phandle; }; x { phandle = <1>; }; /delete-node/ x; y { phandle = <1>; phandle = <2>; }; p = <&a>; };", "/"+shows("p", 1), "/v"+shows("phandle", 1), "/w", "/y"+shows("phandle", 2), "&a /v")
	// Other properties with numbers take none.
	builds(t, "/ { a: v { phandles = <1>; Phandle = <2>; #phandle = <3>; p = <&a>; phandle-1 = <4>; }; };", "/", "/v"+shows("#phandle", 3)+shows("Phandle", 2)+shows("p", 1)+shows("phandle", 1)+shows("phandle-1", 4)+shows("phandles", 1), "&a /v")
	builds(t, "r: / { phandle = <0x100000>; a: v { p = <&r &a>; }; };", "/"+shows("phandle", api.MaxPhandle), "/v"+shows("p", api.MaxPhandle, 1)+shows("phandle", 1), "&a /v", "&r /")
}

// TestAllNodesHavePhandles refers to as many nodes as there can be; every third one has a phandle already.
func TestAllNodesHavePhandles(t *testing.T) {
	l := wide(api.MaxNodes - 1)
	for i := range api.MaxNodes - 1 {
		name := strconv.Itoa(i + 1)
		l = append(l, begin("", "n"+name))
		if i%3 == 0 {
			l = append(l, prop("phandle", cells(num(i+1))))
		}
		l = append(l, prop("p", cells(to("l"+name))), end())
	}
	x, _, _, e := label.Build(append(l, end()))
	if e != api.OK || len(x.Nodes) != api.MaxNodes {
		t.Fatalf("error %d, %d nodes", e, len(x.Nodes))
	}
	free := 1
	for _, n := range x.Nodes[1:] {
		i, _ := strconv.Atoi(n.Name[1:])
		want := i
		if i%3 != 1 {
			for free%3 == 1 {
				free++
			}
			want = free
			free++
		}
		value := string([]byte{0, 0, 0, byte(want)})
		if !slices.Equal(n.Properties, []api.Property{{Name: "p", Value: value}, {Name: "phandle", Value: value}}) {
			t.Errorf("%v, not %d", n, want)
		}
	}
}

// TestReferencesToWhatStandsThen checks references ahead, and labels that stood for other nodes before.
func TestReferencesToWhatStandsThen(t *testing.T) {
	builds(t, "/ { p = <&a>, &a; }; / { a: x { }; };", `/ p="\x00\x00\x00\x01/x\x00"`, "/x"+shows("phandle", 1), "&a /x")
	builds(t, "/ { p = <&a>, &a; x { }; }; / { a: x { }; };", `/ p="\x00\x00\x00\x01/x\x00"`, "/x"+shows("phandle", 1), "&a /x")
	want := []string{`/ p="\x00\x00\x00\x01/y\x00"`, "/y" + shows("phandle", 1), "&a /y"}
	builds(t, "/ { a: x { }; p = <&a>, &a; /delete-node/ x; a: y { }; };", want...)
	builds(t, "/ { a: x { phandle = <9>; }; p = <&a>, &a; }; /delete-node/ &a; / { a: y { }; };", want...)
	builds(t, "/ { w { a: x { }; }; p = <&a>, &a; /delete-node/ w; a: y { }; };", want...)
	builds(t, "/ { a: y { q; }; p = <&a>, &a; /delete-node/ y; a: y { }; };", want...)
	// In the node itself, and in those above and below it.
	builds(t, "/ { a: x { p = <&a>, &a; y { p = <&b>, &a; b: z { }; }; }; };", "/", `/x p="\x00\x00\x00\x01/x\x00"`+shows("phandle", 1), `/x/y p="\x00\x00\x00\x02/x\x00"`, "/x/y/z"+shows("phandle", 2), "&a /x", "&b /x/y/z")
}

func TestReferencesToNothing(t *testing.T) {
	for _, s := range []string{"<&a>", "&a", "<1 2 &a>", "<&r &a>", "\"s\", &a", "&r, &a", "<&r>, <&a>", "<&a>, [0]"} {
		failsAt(t, "r: / {\n p = "+s+"; };", 2, 2, api.ErrDangling)
		failsAt(t, "r: / { a: x { };\n p = "+s+"; /delete-node/ x; };", 2, 2, api.ErrDangling)
		failsAt(t, "r: / { a: x { };\n p = "+s+"; /delete-node/ x; x { }; };", 2, 2, api.ErrDangling)
		failsAt(t, "r: / { w { a: x { }; };\n  p = "+s+"; /delete-node/ w; };", 2, 3, api.ErrDangling)
		failsAt(t, "r: / { a: x { };\n p = "+s+"; }; /delete-node/ &a;", 2, 2, api.ErrDangling)
		failsAt(t, "r: / { A: a { };\n p = "+s+"; };", 2, 2, api.ErrDangling)
	}
	// What is no label stands for nothing, either.
	for _, s := range []string{"9", "a b", "&r", "/", "\x00", "r ", strings.Repeat("r", 1000)} {
		fails(t, placed(begin("r", "/"), prop("p", cells(to(s))), end()), place(1), api.ErrDangling)
		fails(t, placed(begin("r", "/"), prop("p", path(s)), end()), place(1), api.ErrDangling)
	}
	fails(t, placed(begin("r", "/"), prop("p", path("")), end()), place(1), api.ErrDangling)
	// The Value of a cell with a label does not matter.
	gives(t, placed(begin("r", "/"), prop("p", cells(api.Cell{Label: "r", Value: -1}, api.Cell{Label: "r", Value: math.MaxInt})), end()), "/"+shows("p", 1, 1)+shows("phandle", 1), "&r /")
}

func TestNodesThatAreOpenAtTheEnd(t *testing.T) {
	for n := range api.MaxDepth {
		l := chain(n + 1)
		for i := range n + 2 {
			fails(t, placed(append(l[:len(l):len(l)], ends(i)...)...), api.Position{}, api.ErrEnd)
		}
		has(t, placed(append(l, ends(n+2)...)...), n+2, 0)
	}
	fails(t, placed(begin("l", "/"), end(), begin("", "&l")), api.Position{}, api.ErrEnd)
}

func TestPhandlesThatAreNone(t *testing.T) {
	for _, s := range []string{"", " = <>", " = <0>", " = <0x100001>", " = <0xffffffff>", " = <1 2>", " = <1>, <2>", " = <1>, <>", " = <>, <1>", " = \"\"", " = \"a\"", " = \"\\x00\\x00\\x00\"", " = [0 0 0 1]", " = [1]", " = &r", " = <&r>", " = <&none>", " = <1>, \"\"", " = <1>, []"} {
		failsAt(t, "r: / {\n phandle"+s+"; };", 2, 2, api.ErrRange)
		failsAt(t, "r: / { a {\n phandle"+s+"; }; };", 2, 2, api.ErrRange)
		failsAt(t, "r: / { a { phandle = <1>;\n  phandle"+s+"; }; };", 2, 3, api.ErrRange)
	}
	for _, n := range []int{math.MinInt, -1, 0, api.MaxPhandle + 1, 1<<32 + 1, math.MaxInt} {
		fails(t, placed(begin("", "/"), prop("phandle", cells(num(n))), end()), place(1), api.ErrRange)
	}
	fails(t, placed(begin("r", "/"), prop("phandle", cells(api.Cell{Label: "r", Value: 1})), end()), place(1), api.ErrRange)
	for _, n := range []int{1, 2, 255, 256, 65536, api.MaxPhandle - 1, api.MaxPhandle} {
		gives(t, placed(begin("", "/"), prop("phandle", cells(num(n))), end()), "/"+shows("phandle", n))
	}
}

func TestNumbersThatAreNoCells(t *testing.T) {
	for _, n := range []int{math.MinInt, -1, api.MaxCell + 1, math.MaxInt} {
		fails(t, placed(begin("", "/"), prop("p", cells(num(n))), end()), place(1), api.ErrRange)
		fails(t, placed(begin("", "/"), prop("p", text("s"), cells(num(1)), cells(num(2), num(n), num(3))), end()), place(1), api.ErrRange)
		gives(t, placed(begin("", "/"), prop("p", cells(num(n))), prop("p"), prop("q", cells(num(n))), unset("q"), end()), `/ p=""`)
		// They matter only where there are cells.
		p := api.Part{Kind: api.PartString, Text: "s", Cells: []api.Cell{num(n), to("none")}}
		gives(t, placed(begin("", "/"), prop("p", p), end()), `/ p="s\x00"`)
	}
	gives(t, placed(begin("", "/"), prop("p", cells(num(0), num(1), num(api.MaxCell))), end()), "/"+shows("p", 0, 1, api.MaxCell))
}

func TestPhandlesThatOccurTwice(t *testing.T) {
	failsAt(t, "/ { phandle = <3>; a {\n phandle = <3>; }; };", 2, 2, api.ErrDuplicate)
	// The later one in the tree is at fault, wherever it is in the text.
	failsAt(t, "/ { b {\n phandle = <3>; }; a { phandle = <3>; }; };", 2, 2, api.ErrDuplicate)
	failsAt(t, "/ { b {\n phandle = <3>; };\n phandle = <3>; };", 2, 2, api.ErrDuplicate)
	failsAt(t, "/ { a { phandle = <3>; }; b { phandle = <4>; }; c {\n phandle = <4>; }; d { phandle = <3>; }; };", 2, 2, api.ErrDuplicate)
	builds(t, "/ { a { phandle = <3>; phandle = <3>; }; }; / { a { phandle = <3>; }; };", "/", "/a"+shows("phandle", 3))
}

func TestMostBytes(t *testing.T) {
	const most = api.MaxValue
	long := strings.Repeat("v", most)
	number := cells(slices.Repeat([]api.Cell{num(0x76767676)}, most/4)...)
	for _, l := range [][]api.Part{{bytes(long)}, {number}, {text(""), bytes(long[1:])}, {bytes(long[1:]), text("")}, {text(long[1:])}, {bytes(long), bytes(""), cells()}, {bytes(long[4:]), cells(to("r"))}, {bytes(long[2:]), path("r")}} {
		x, _, _, e := label.Build(placed(begin("r", "/"), prop("p", l...), end()))
		if e != api.OK || len(x.Nodes[0].Properties[0].Value) != most {
			t.Errorf("%v: error %d, %v", l, e, x)
		}
		for _, more := range []api.Part{bytes("v"), text(""), cells(num(1)), cells(to("r")), path("r")} {
			fails(t, placed(begin("r", "/"), prop("p", append(l[:len(l):len(l)], more)...), end()), place(1), api.ErrLimit)
			fails(t, placed(begin("r", "/"), prop("p", append([]api.Part{more}, l...)...), end()), place(1), api.ErrLimit)
		}
	}
	fails(t, placed(begin("", "/"), prop("p", bytes(strings.Repeat("v", 1<<20))), end()), place(1), api.ErrLimit)
	// One that is set again, deleted or removed with its node may have been too long.
	builds(t, "/ { p = \""+long+"\"; p; q = \""+long+"\"; /delete-property/ q; n { p = \""+long+"\"; }; /delete-node/ n; };", `/ p=""`)
}

// faults are the errors that properties of a node can have at the end, with a name and parts. The first two are sought together.
func faults() []struct {
	name string
	part api.Part
	e    api.Errno
} {
	return []struct {
		name string
		part api.Part
		e    api.Errno
	}{
		{"phandle", text("s"), api.ErrRange},
		{"p", cells(num(-1)), api.ErrRange},
		{"phandle", cells(num(1)), api.ErrDuplicate},
		{"p", cells(to("none")), api.ErrDangling},
		{"p", path("none"), api.ErrDangling},
		{"p", bytes(strings.Repeat("v", api.MaxValue+1)), api.ErrLimit},
	}
}

// TestTheOrderOfTheErrorsAtTheEnd puts each two errors of properties into two nodes, in both orders of the text.
func TestTheOrderOfTheErrorsAtTheEnd(t *testing.T) {
	stage := map[api.Errno]int{api.ErrRange: 1, api.ErrDuplicate: 1, api.ErrDangling: 2, api.ErrLimit: 3}
	for _, a := range faults() {
		for _, b := range faults() {
			first := []api.Definition{begin("", "a"), prop(a.name, a.part), end()}
			second := []api.Definition{begin("", "b"), prop(b.name, b.part), end()}
			start := []api.Definition{begin("", "/"), prop("phandle", cells(num(1)))}
			for _, turned := range []bool{false, true} {
				at := map[string]int{"a": 3, "b": 6}
				l := slices.Concat(start, first, second, ends(1))
				if turned {
					at = map[string]int{"a": 6, "b": 3}
					l = slices.Concat(start, second, first, ends(1))
				}
				if stage[b.e] < stage[a.e] {
					fails(t, placed(l...), place(at["b"]), b.e)
				} else {
					fails(t, placed(l...), place(at["a"]), a.e)
				}
				// All of them come after an end that is missing, and after an error on the way.
				fails(t, placed(l[:len(l)-1]...), api.Position{}, api.ErrEnd)
				fails(t, placed(append(l, end())...), place(len(l)), api.ErrSyntax)
			}
		}
	}
}

// TestTheOrderOfTheErrorsInANode checks that the properties of a node are in the order of their names, and come before those of its children.
func TestTheOrderOfTheErrorsInANode(t *testing.T) {
	for _, f := range faults() {
		if f.name == "phandle" {
			continue
		}
		bad := func(name string) api.Definition { return prop(name, f.part) }
		fails(t, placed(begin("", "/"), bad("a"), bad("b"), end()), place(1), f.e)
		fails(t, placed(begin("", "/"), bad("b"), bad("a"), end()), place(2), f.e)
		fails(t, placed(begin("", "/"), bad("a"), bad("#a"), end()), place(2), f.e)
		fails(t, placed(begin("", "/"), prop("a"), bad("a"), end()), place(2), f.e)
		fails(t, placed(begin("", "/"), bad("a"), bad("a"), end()), place(2), f.e)
		fails(t, placed(begin("", "/"), begin("", "a"), bad("a"), end(), bad("z"), end()), place(4), f.e)
		fails(t, placed(begin("", "/"), begin("", "b"), bad("a"), end(), begin("", "a"), bad("b"), end(), end()), place(5), f.e)
		fails(t, placed(begin("", "/"), begin("", "b"), end(), begin("", "a"), begin("", "z"), bad("b"), end(), end(), begin("", "b"), bad("a"), end(), end()), place(5), f.e)
	}
	number := cells(num(-1))
	fails(t, placed(begin("", "/"), prop("q", number), prop("phandle"), prop("p"), end()), place(2), api.ErrRange)
	fails(t, placed(begin("", "/"), prop("phandle"), prop("p", number), end()), place(2), api.ErrRange)
	fails(t, placed(begin("", "/"), prop("phandle", cells(num(1))), begin("", "a"), prop("q", number), prop("phandle", cells(num(1))), end(), end()), place(4), api.ErrDuplicate)
	fails(t, placed(begin("", "/"), prop("phandle", cells(num(1))), begin("", "a"), prop("phandle", cells(num(1))), prop("p", number), end(), end()), place(4), api.ErrRange)
}

// TestTheOrderOfTheErrorsWithPhandles checks the error of a node that has no room for its phandle: it comes after ErrDangling, and before values that are too long.
func TestTheOrderOfTheErrorsWithPhandles(t *testing.T) {
	l := append(full(api.MaxProperties), prop("p1", cells(to("r"))))
	for _, f := range faults() {
		all := append(l[:len(l):len(l)], begin("", "a"), prop(f.name, f.part), end(), begin("", "b"), prop("phandle", cells(num(1))), end(), end())
		switch {
		case f.e == api.ErrLimit:
			fails(t, placed(all...), api.Position{}, api.ErrLimit)
		case f.e == api.ErrDuplicate:
			fails(t, placed(all...), place(len(l)+4), api.ErrDuplicate)
		default:
			fails(t, placed(all...), place(len(l)+1), f.e)
		}
	}
}
