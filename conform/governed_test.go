package conform_test

import (
	"slices"
	"strings"
	"testing"

	"bringup/api"
	"bringup/conform"
	"bringup/tree"
)

// governs checks by which schema a node is governed.
func governs(t *testing.T, x api.Tree, l []api.Schema, node, want int, wantOK bool) {
	t.Helper()
	check := unchanged(t, x, l)
	if at, ok := conform.Governed(x, l, node); at != want || ok != wantOK {
		t.Errorf("%s, node %d: %d, %v, not %d, %v", shown(x, l), node, at, ok, want, wantOK)
	}
	check()
}

// isCompatible checks the compatible strings of a node.
func isCompatible(t *testing.T, x api.Tree, node int, want ...string) {
	t.Helper()
	check := unchanged(t, x, nil)
	got := conform.Compatible(x, node)
	if !slices.Equal(got, want) {
		t.Errorf("%s, node %d: %q, not %q", shown(x, nil), node, got, want)
	}
	check()
	clear(got[:cap(got)])
	if got := conform.Compatible(x, node); !slices.Equal(got, want) {
		t.Errorf("%s, node %d: %q the second time, not %q", shown(x, nil), node, got, want)
	}
}

// noNodes are indices that no node has in a tree with so many nodes.
func noNodes(n int) []int {
	return []int{-1 << 63, -1000, -2, -1, n, n + 1, n + 2, 1000, 1 << 32, 1<<63 - 1}
}

func TestCompatible(t *testing.T) {
	full := texts(strings.Split(strings.Repeat("s", api.MaxValue/2), "")...)
	for _, c := range []struct {
		value string
		want  []string
	}{
		{texts("a"), []string{"a"}},
		{texts("a", "b"), []string{"a", "b"}},
		{texts("b", "a", "b"), []string{"b", "a", "b"}},
		{texts("maker,board-2", "a b", " ", "~"), []string{"maker,board-2", "a b", " ", "~"}},
		{texts(strings.Repeat("s", api.MaxValue-1)), []string{strings.Repeat("s", api.MaxValue-1)}},
		{full, strings.Split(strings.Repeat("s", api.MaxValue/2), "")},
		{"abc\x00", []string{"abc"}},
		{"", nil},
		{"\x00", nil},
		{"a", nil},
		{"a\x00\x00", nil},
		{"\x00a\x00", nil},
		{"a\x00\x00b\x00", nil},
		{"a\x00b", nil},
		{"a\x1f\x00", nil},
		{"a\x7f\x00", nil},
		{"a\x00b\xff\x00", nil},
		{cells(1), nil},
		{strings.Repeat("a", api.MaxValue), nil},
	} {
		p := property("compatible", c.value)
		isCompatible(t, made(root(p)), 0, c.want...)
		x := made(root(property("c", texts("c")), property("compatibl", texts("d")), property("compatible-", texts("e"))), node(0, "x", property("Compatible", texts("f")), p, property("z", texts("z"))), node(1, "y", compatible("g")), node(0, "z"))
		isCompatible(t, x, 0)
		isCompatible(t, x, 1, c.want...)
		isCompatible(t, x, 2, "g")
		isCompatible(t, x, 3)
	}
}

func TestCompatibleOfNoNode(t *testing.T) {
	for _, x := range []api.Tree{made(root(compatible("a"))), made(root(compatible("a")), node(0, "x", compatible("b")), node(0, "y", compatible("c", "d")))} {
		for _, n := range noNodes(len(x.Nodes)) {
			isCompatible(t, x, n)
		}
	}
}

func TestGoverned(t *testing.T) {
	l := list(open("a"), closed("b", required(rule("p", api.RuleAny))), open("c", rule("p", api.RuleEmpty)), closed("d"))
	for _, c := range []struct {
		value string
		want  int
		ok    bool
	}{
		{texts("a"), 0, true},
		{texts("b"), 1, true},
		{texts("d"), 3, true},
		// The order is that of the strings, not that of the schemas.
		{texts("c", "a"), 2, true},
		{texts("a", "c"), 0, true},
		{texts("x", "c", "a"), 2, true},
		{texts("x", "y", "z", "b"), 1, true},
		{texts("b", "b", "a"), 1, true},
		{texts("x"), 0, false},
		{texts("x", "y"), 0, false},
		{texts("A", "aa", " a", "a ", "a,b", "p"), 0, false},
		{"", 0, false},
		{"b", 0, false},
		{"b\x00\x00", 0, false},
		{"\x00b\x00", 0, false},
		{"b\x00\xff\x00", 0, false},
		{cells(1), 0, false},
	} {
		p := property("compatible", c.value)
		governs(t, made(root(p)), l, 0, c.want, c.ok)
		governs(t, made(root(p)), nil, 0, 0, false)
		x := made(root(), node(0, "x", p), node(1, "y", property("compatibl", texts("b")), property("compatible-", texts("b"))), node(0, "z", compatible("b")))
		governs(t, x, l, 0, 0, false)
		governs(t, x, l, 1, c.want, c.ok)
		governs(t, x, l, 2, 0, false)
		governs(t, x, l, 3, 1, true)
		for _, n := range noNodes(len(x.Nodes)) {
			governs(t, x, l, n, 0, false)
		}
	}
}

// TestRulesOfTheSchemaThatGoverns checks that each node is held against its own schema.
func TestRulesOfTheSchemaThatGoverns(t *testing.T) {
	need := func(s string) api.Schema { return open(s, required(rule("p"+s, api.RuleAny))) }
	l := list(need("a"), need("b"), need("c"))
	miss := func(s string) api.Violation { return bad(api.BadMissing, 1, s, "p"+s) }
	for _, c := range []struct {
		strings string
		want    api.Violation
	}{
		{"a", miss("a")}, {"b", miss("b")}, {"c", miss("c")}, {"a b", miss("a")}, {"b a", miss("b")}, {"c b a", miss("c")},
		{"x a", miss("a")}, {"x y c b", miss("c")}, {"a x", miss("a")}, {"A b", miss("b")}, {"aa ab c", miss("c")},
		{"x", bad(api.BadUnknown, 1, "x", "")}, {"x y", bad(api.BadUnknown, 1, "x", "")}, {"y x", bad(api.BadUnknown, 1, "y", "")}, {"aa A", bad(api.BadUnknown, 1, "aa", "")},
	} {
		violates(t, made(root(), node(0, "x", compatible(strings.Fields(c.strings)...))), l, c.want)
	}
	// Strings of any length and with blanks are unknown, too.
	for _, s := range []string{" ", "a b", strings.Repeat("x", api.MaxName), strings.Repeat("x", api.MaxName+1), strings.Repeat("x", api.MaxValue-1)} {
		violates(t, made(root(), node(0, "x", compatible(s))), l, bad(api.BadUnknown, 1, s, ""))
		violates(t, made(root(), node(0, "x", compatible(s))), nil, bad(api.BadUnknown, 1, s, ""))
	}
	long := strings.Repeat("~", api.MaxName)
	violates(t, made(root(compatible(long+"~", long))), list(closed(long, required(rule("p", api.RuleAny)))), bad(api.BadMissing, 0, long, "p"))
	// A node whose value is no strings has no violations.
	for _, v := range []string{"", "\x00", "x", "x\x00\x00", "\x00x\x00", "a\x00\x01\x00", cells(1, 2), "\xff"} {
		violates(t, made(root(property("compatible", v), property("p", ""))), l)
		violates(t, made(root(property("compatible", v), property("p", ""))), list(closed("a"), closed("x", required(rule("q", api.RuleAny)))))
	}
}

// spoilt returns trees that are not valid, by their errors, each of which begins with the nodes of a valid one with at most 10 nodes.
func spoilt(x api.Tree) map[api.Errno][]api.Tree {
	add := func(l ...api.Node) api.Tree {
		y := cloneTree(x)
		y.Nodes = append(y.Nodes, l...)
		return y
	}
	var many []api.Property
	for i := range api.MaxProperties + 1 {
		many = append(many, property("p"+string(rune('a'+i)), ""))
	}
	deep := add(node(0, "zz"))
	for range api.MaxDepth {
		deep.Nodes = append(deep.Nodes, node(len(deep.Nodes)-1, "d"))
	}
	full := cloneTree(x)
	for i := range api.MaxNodes {
		full.Nodes = append(full.Nodes, node(0, "zz"+string(rune('a'+i/16))+string(rune('a'+i%16))))
	}
	return map[api.Errno][]api.Tree{
		api.ErrLimit:     {full, add(node(0, "zz", many...)), add(node(0, "zz", property("p", strings.Repeat("v", api.MaxValue+1))))},
		api.ErrInvalid:   {add(node(-1, "")), add(node(0, "")), add(node(0, "z z")), add(node(1000, "zz")), add(node(0, "zz", property("", "")))},
		api.ErrOrder:     {add(node(0, "zz"), node(0, "zy")), add(node(0, "zz", property("q", ""), property("p", ""))), add(node(0, "zz", compatible("a"), compatible("a")))},
		api.ErrDuplicate: {add(node(0, "zz"), node(0, "zz"))},
		api.ErrRange:     {deep},
	}
}

// spoiltSchemas returns schemas that are not valid, by their errors, each of which begins with some valid ones.
func spoiltSchemas(l []api.Schema) map[api.Errno][][]api.Schema {
	add := func(more ...api.Schema) []api.Schema { return append(cloneSchemas(l), more...) }
	full := cloneSchemas(l)
	for i := range api.MaxSchemas {
		full = append(full, open("z"+string(rune('a'+i))))
	}
	return map[api.Errno][][]api.Schema{
		api.ErrLimit:   {full, add(open("zz", make([]api.Rule, api.MaxRules+1)...))},
		api.ErrInvalid: {add(open("")), add(open("z z")), add(open("zz", rule("p", 0))), add(open("zz", ranged("p", 2, 1, 0))), add(open("zz", worded("p")))},
		api.ErrOrder:   {add(open("zz"), open("zz")), add(open("zz"), open("zy")), add(open("zz", rule("q", api.RuleAny), rule("p", api.RuleAny)))},
	}
}

// nothing checks that there is no violation, no schema and, if a tree is not valid, no string.
func nothing(t *testing.T, x api.Tree, l []api.Schema, would []api.Violation) {
	t.Helper()
	for _, v := range would {
		if conform.Holds(x, l, v) {
			t.Errorf("%s: %v holds", shown(x, l), v)
		}
	}
	for n := -1; n <= len(x.Nodes); n++ {
		governs(t, x, l, n, 0, false)
		if tree.Check(x) != api.OK {
			isCompatible(t, x, n)
		}
	}
}

func TestTreesAndSchemasThatAreNotValid(t *testing.T) {
	x, l := made(root(compatible("x")), node(0, "b", compatible("b", "c"))), list(open("b", required(rule("p", api.RuleAny))))
	want := []api.Violation{bad(api.BadUnknown, 0, "x", ""), bad(api.BadMissing, 1, "b", "p")}
	violates(t, x, l, want...)
	governs(t, x, l, 1, 0, true)
	for e, trees := range spoilt(x) {
		for _, y := range trees {
			fails(t, y, l, e)
			fails(t, y, nil, e)
			nothing(t, y, l, want)
			// The error of the tree comes first.
			for _, lists := range spoiltSchemas(l) {
				for _, bad := range lists {
					fails(t, y, bad, e)
					nothing(t, y, bad, want)
				}
			}
		}
	}
	for e, lists := range spoiltSchemas(l) {
		for _, bad := range lists {
			fails(t, x, bad, e)
			nothing(t, x, bad, want)
			fails(t, made(root()), bad, e)
			fails(t, api.Tree{}, bad, api.ErrLimit)
			isCompatible(t, x, 0, "x")
			isCompatible(t, x, 1, "b", "c")
		}
	}
	// There must be a root.
	for _, y := range []api.Tree{{}, {Nodes: []api.Node{}}} {
		fails(t, y, l, api.ErrLimit)
		fails(t, y, nil, api.ErrLimit)
		nothing(t, y, l, want)
	}
}
