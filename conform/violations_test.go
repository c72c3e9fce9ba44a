package conform_test

import (
	"encoding/binary"
	"fmt"
	"slices"
	"strings"
	"testing"

	"bringup/api"
	"bringup/conform"
	"bringup/include"
	"bringup/label"
	"bringup/schema"
	"bringup/tree"
)

func node(parent int, name string, l ...api.Property) api.Node {
	return api.Node{Parent: parent, Name: name, Properties: l}
}

func root(l ...api.Property) api.Node { return node(-1, "", l...) }

func made(nodes ...api.Node) api.Tree { return api.Tree{Nodes: nodes} }

func property(name, value string) api.Property { return api.Property{Name: name, Value: value} }

// compatible returns the property with compatible strings.
func compatible(l ...string) api.Property { return property("compatible", texts(l...)) }

// cells returns the bytes of numbers.
func cells(l ...uint32) string {
	var out []byte
	for _, n := range l {
		out = binary.BigEndian.AppendUint32(out, n)
	}
	return string(out)
}

// texts returns the bytes of strings.
func texts(l ...string) string { return strings.Join(l, "\x00") + "\x00" }

func open(compatible string, l ...api.Rule) api.Schema {
	return api.Schema{Compatible: compatible, Rules: l}
}

func closed(compatible string, l ...api.Rule) api.Schema {
	return api.Schema{Compatible: compatible, Closed: true, Rules: l}
}

func list(l ...api.Schema) []api.Schema { return l }

func rule(name string, kind int) api.Rule { return api.Rule{Name: name, Kind: kind} }

func counted(name string, kind, count int) api.Rule {
	return api.Rule{Name: name, Kind: kind, Count: count}
}

func ranged(name string, low, high, count int) api.Rule {
	return api.Rule{Name: name, Kind: api.RuleCells, Low: low, High: high, Count: count}
}

func worded(name string, l ...string) api.Rule {
	return api.Rule{Name: name, Kind: api.RuleWord, Words: l}
}

func required(r api.Rule) api.Rule {
	r.Required = true
	return r
}

func bad(kind, node int, schema, property string) api.Violation {
	return api.Violation{Kind: kind, Node: node, Schema: schema, Property: property}
}

// built returns the tree of a source text.
func built(t *testing.T, text string) api.Tree {
	t.Helper()
	definitions, _, e := include.Load([]api.File{{Name: "main", Text: text}}, "main")
	if e != api.OK {
		t.Fatalf("%q: error %d", text, e)
	}
	x, _, _, e := label.Build(definitions)
	if e != api.OK {
		t.Fatalf("%q: error %d", text, e)
	}
	return x
}

// parsed returns the schemas of a text.
func parsed(t *testing.T, text string) []api.Schema {
	t.Helper()
	l, line, e := schema.Parse(text)
	if e != api.OK {
		t.Fatalf("%q: error %d in line %d", text, e, line)
	}
	return l
}

// cloneTree returns a tree that shares no memory with another one.
func cloneTree(x api.Tree) api.Tree {
	out := api.Tree{Nodes: slices.Clone(x.Nodes)}
	for i, n := range out.Nodes {
		out.Nodes[i].Properties = slices.Clone(n.Properties)
	}
	return out
}

// cloneSchemas returns schemas that share no memory with others.
func cloneSchemas(l []api.Schema) []api.Schema {
	l = slices.Clone(l)
	for i := range l {
		l[i].Rules = slices.Clone(l[i].Rules)
		for k := range l[i].Rules {
			l[i].Rules[k].Words = slices.Clone(l[i].Rules[k].Words)
		}
	}
	return l
}

// shown returns a tree with schemas, as far as a message has room for them.
func shown(x api.Tree, l []api.Schema) string {
	return fmt.Sprintf("%.200q with %.200q", fmt.Sprint(x.Nodes), fmt.Sprint(l))
}

// unchanged returns a function that checks that a tree and schemas are still as they are now.
func unchanged(t *testing.T, x api.Tree, l []api.Schema) func() {
	t.Helper()
	before, beside := cloneTree(x), cloneSchemas(l)
	return func() {
		t.Helper()
		if !tree.Same(x, before) || !schema.Same(l, beside) {
			t.Errorf("%s was changed", shown(before, beside))
		}
	}
}

// variants returns violations that differ from one in one field.
func variants(v api.Violation) []api.Violation {
	var out []api.Violation
	for kind := -1; kind <= 9; kind++ {
		if kind != v.Kind {
			out = append(out, bad(kind, v.Node, v.Schema, v.Property))
		}
	}
	for _, n := range []int{-1 << 63, -1, 0, v.Node - 1, v.Node + 1, v.Node + 256, 1000, 1<<63 - 1} {
		if n != v.Node {
			out = append(out, bad(v.Kind, n, v.Schema, v.Property))
		}
	}
	for _, s := range []string{"", "a", "b", "c", v.Schema + "\x00", v.Schema + "x", strings.ToUpper(v.Schema)} {
		if s != v.Schema {
			out = append(out, bad(v.Kind, v.Node, s, v.Property))
		}
	}
	for _, s := range []string{"", "a", "b", "p", "compatible", v.Property + "\x00", v.Property + "x", strings.ToUpper(v.Property)} {
		if s != v.Property {
			out = append(out, bad(v.Kind, v.Node, v.Schema, s))
		}
	}
	return out
}

// violates checks the violations of a tree, and that these hold and no other ones do.
func violates(t *testing.T, x api.Tree, l []api.Schema, want ...api.Violation) {
	t.Helper()
	check := unchanged(t, x, l)
	got, e := conform.Violations(x, l)
	if e != api.OK || !slices.Equal(got, want) {
		t.Errorf("%s: %v, error %d, not %v", shown(x, l), got, e, want)
	}
	holds(t, x, l, want)
	check()
}

// holds checks that all violations of a tree hold, and that what differs from some of them in one field does so only if it is one.
func holds(t *testing.T, x api.Tree, l []api.Schema, all []api.Violation) {
	t.Helper()
	for i, v := range all {
		if !conform.Holds(x, l, v) {
			t.Errorf("%s: %v does not hold", shown(x, l), v)
		}
		if i >= 10 && i < len(all)-3 && i != api.MaxViolations {
			continue
		}
		for _, w := range variants(v) {
			if conform.Holds(x, l, w) != slices.Contains(all, w) {
				t.Errorf("%s: whether %v holds", shown(x, l), w)
			}
		}
	}
	for kind := range 9 {
		v := bad(kind, 0, "none", "none")
		if conform.Holds(x, l, v) || conform.Holds(x, l, api.Violation{Kind: kind}) {
			t.Errorf("%s: a violation of the kind %d holds", shown(x, l), kind)
		}
	}
}

// fails checks the error of a tree with schemas.
func fails(t *testing.T, x api.Tree, l []api.Schema, want api.Errno) {
	t.Helper()
	check := unchanged(t, x, l)
	if got, e := conform.Violations(x, l); e != want || len(got) > 0 {
		t.Errorf("%s: %d violations, error %d, not %d", shown(x, l), len(got), e, want)
	}
	check()
}

func TestExampleOfTheChapter(t *testing.T) {
	x := made(root(), node(0, "x", compatible("b")))
	violates(t, x, list(open("b", required(rule("p", api.RuleAny)))), bad(api.BadMissing, 1, "b", "p"))
}

func TestTreesWithoutViolations(t *testing.T) {
	violates(t, made(root()), nil)
	violates(t, made(root()), []api.Schema{})
	violates(t, made(api.Node{Parent: -1, Properties: []api.Property{}}), list(closed("a", required(rule("p", api.RuleAny)))))
	violates(t, made(root(compatible("a"))), list(open("a")))
	violates(t, made(root(compatible("a"))), list(closed("a")))
	violates(t, made(root(compatible("a"))), list(api.Schema{Compatible: "a", Closed: true, Rules: []api.Rule{}}))
	// Without compatible strings nothing is asked for.
	violates(t, made(root(property("p", "")), node(0, "x", property("q", "\x01"))), list(closed("a", required(rule("r", api.RuleAny)))))
	violates(t, made(root(property("p", "")), node(0, "x", property("q", "\x01"))), nil)
}

// ordinary is a board, and the schemas that it conforms to.
const (
	ordinary = `/ {
	#address-cells = <1>;
	#size-cells = <1>;
	compatible = "maker,board-2", "board";
	cpu { compatible = "cpu"; clocks = <&pll 0 &osc>; status = "okay"; };
	leds { compatible = "leds"; red { color = <1>; }; };
	osc: osc { compatible = "fixed-clock"; clock-frequency = <24000000>; };
	pll: pll { compatible = "maker,pll", "clock"; clocks = <&osc 3>; clock-names = "ref", "aux"; bypass; };
	uart@100 { compatible = "uart"; reg = <0x100 0x10>; mode = "rts"; unknown = [1 2 3]; };
};`
	schemas = "schema board\n\tmodel text\n" +
		"schema clock closed\n\tbypass empty\n\tclock-names text x2\n\tclocks required handle x2\n" +
		"schema cpu closed\n\tclocks required handle x3\n\tstatus required word disabled okay\n" +
		"schema fixed-clock closed\n\tclock-frequency required cells 1..4000000000 x1\n" +
		"schema leds\n" +
		"schema uart\n\tmode required word none rts\n\treg required cells 0..65535 x2\n"
)

func TestOrdinaryTree(t *testing.T) {
	x, l := built(t, ordinary), parsed(t, schemas)
	violates(t, x, l)
	for _, c := range []struct {
		old, new string
		want     []api.Violation
	}{
		{`clocks = <&osc 3>;`, ``, []api.Violation{bad(api.BadMissing, 5, "clock", "clocks")}},
		{`clocks = <&osc 3>;`, `clocks = [1];`, []api.Violation{bad(api.BadKind, 5, "clock", "clocks")}},
		{`clocks = <&osc 3>;`, `clocks = <&osc 3 4>;`, []api.Violation{bad(api.BadCount, 5, "clock", "clocks")}},
		{`clocks = <&osc 3>;`, `clocks = <9 3>;`, []api.Violation{bad(api.BadHandle, 5, "clock", "clocks")}},
		{`clocks = <&osc 3>;`, `clocks = <&osc 3>; extra;`, []api.Violation{bad(api.BadExtra, 5, "clock", "extra")}},
		{`bypass;`, `bypass = <1>;`, []api.Violation{bad(api.BadKind, 5, "clock", "bypass")}},
		{`<24000000>`, `<0>`, []api.Violation{bad(api.BadRange, 4, "fixed-clock", "clock-frequency")}},
		{`"okay"`, `"on"`, []api.Violation{bad(api.BadRange, 1, "cpu", "status")}},
		{`"clock"; clocks`, `"klock"; clocks`, []api.Violation{bad(api.BadUnknown, 5, "maker,pll", "")}},
		{`"maker,board-2", "board"`, `"maker,board-2"`, []api.Violation{bad(api.BadUnknown, 0, "maker,board-2", "")}},
		{`"okay"; };`, `"okay"; }; bus { compatible = "bus"; };`, []api.Violation{bad(api.BadUnknown, 1, "bus", "")}},
		{`reg = <0x100 0x10>; mode = "rts";`, `reg = <0x10000 0x10>;`, []api.Violation{bad(api.BadMissing, 6, "uart", "mode"), bad(api.BadRange, 6, "uart", "reg")}},
		{`model`, `x`, nil},
		{`unknown`, `more`, nil},
		{`red {`, `red { compatible = [1]; more;`, nil},
	} {
		violates(t, built(t, strings.Replace(ordinary, c.old, c.new, 1)), l, c.want...)
	}
}

func TestEachKindAlone(t *testing.T) {
	l := list(closed("b", rule("e", api.RuleEmpty), counted("h", api.RuleHandle, 0), required(ranged("p", 1, 5, 1))))
	p := property("p", cells(3))
	for _, c := range []struct {
		kind     int
		property string
		l        []api.Property
	}{
		{api.BadMissing, "p", []api.Property{compatible("b")}},
		{api.BadKind, "e", []api.Property{compatible("b"), property("e", "\x00"), p}},
		{api.BadCount, "p", []api.Property{compatible("b"), property("p", cells(3, 3))}},
		{api.BadRange, "p", []api.Property{compatible("b"), property("p", cells(6))}},
		{api.BadHandle, "h", []api.Property{compatible("b"), property("h", cells(1)), p}},
		{api.BadExtra, "q", []api.Property{compatible("b"), p, property("q", "")}},
	} {
		violates(t, made(root(), node(0, "x", c.l...)), l, bad(c.kind, 1, "b", c.property))
		violates(t, made(root(c.l...)), l, bad(c.kind, 0, "b", c.property))
	}
	violates(t, made(root(), node(0, "x", compatible("a"))), l, bad(api.BadUnknown, 1, "a", ""))
	violates(t, made(root(compatible("a"))), l, bad(api.BadUnknown, 0, "a", ""))
}

func TestOrderOfViolations(t *testing.T) {
	l := list(
		open("a", required(rule("m", api.RuleEmpty)), required(rule("n", api.RuleAny))),
		closed("b", required(rule("#z", api.RuleAny)), rule("e", api.RuleEmpty), ranged("k", 1, 2, 0), required(rule("o", api.RuleText)), worded("w", "x")))
	spoilt := []api.Property{property("#a", ""), compatible("b"), property("e", "1"), property("f", ""), property("k", cells(3)), property("l", ""), property("w", texts("y")), property("x", "")}
	ofB := func(n int) []api.Violation {
		// First come those of rules, whether the property is there or not, and then those of properties without a rule.
		return []api.Violation{bad(api.BadMissing, n, "b", "#z"), bad(api.BadKind, n, "b", "e"), bad(api.BadRange, n, "b", "k"), bad(api.BadMissing, n, "b", "o"), bad(api.BadRange, n, "b", "w"),
			bad(api.BadExtra, n, "b", "#a"), bad(api.BadExtra, n, "b", "f"), bad(api.BadExtra, n, "b", "l"), bad(api.BadExtra, n, "b", "x")}
	}
	ofA := func(n int) []api.Violation {
		return []api.Violation{bad(api.BadKind, n, "a", "m"), bad(api.BadMissing, n, "a", "n")}
	}
	a := []api.Property{compatible("a"), property("m", "m")}
	c := compatible("c", "d")
	violates(t, made(root(spoilt...)), l, ofB(0)...)
	violates(t, made(root(a...)), l, ofA(0)...)
	// Nodes come in their order, whatever the order of their schemas and of the kinds is.
	violates(t, made(root(spoilt...), node(0, "x", a...), node(1, "y", c), node(2, "z"), node(0, "y", a...), node(0, "z", spoilt...)), l,
		slices.Concat(ofB(0), ofA(1), []api.Violation{bad(api.BadUnknown, 2, "c", "")}, ofA(4), ofB(5))...)
	violates(t, made(root(c), node(0, "a", spoilt...), node(0, "b", c), node(2, "a", a...), node(3, "a", spoilt...), node(0, "c", c)), l,
		slices.Concat([]api.Violation{bad(api.BadUnknown, 0, "c", "")}, ofB(1), []api.Violation{bad(api.BadUnknown, 2, "c", "")}, ofA(3), ofB(4), []api.Violation{bad(api.BadUnknown, 5, "c", "")})...)
}

// TestViolationsAreNewMemory changes all of what is returned.
func TestViolationsAreNewMemory(t *testing.T) {
	x, l := made(root(compatible("c")), node(0, "x", compatible("b"))), list(open("b", required(rule("p", api.RuleAny))))
	want := []api.Violation{bad(api.BadUnknown, 0, "c", ""), bad(api.BadMissing, 1, "b", "p")}
	for range 3 {
		got, _ := conform.Violations(x, l)
		if !slices.Equal(got, want) {
			t.Fatalf("%v", got)
		}
		clear(got[:cap(got)])
	}
}

// TestMorePropertiesOfOpenSchemas checks that properties without a rule change nothing.
func TestMorePropertiesOfOpenSchemas(t *testing.T) {
	l := list(open("a", ranged("k", 1, 2, 1), required(rule("m", api.RuleEmpty)), required(rule("p", api.RuleAny))))
	x := made(root(compatible("a"), property("k", cells(3))), node(0, "x", compatible("a"), property("k", cells(1, 1)), property("p", "")))
	before, _ := conform.Violations(x, l)
	for _, path := range []string{"/", "/x"} {
		for _, name := range []string{"#a", "#size-cells", "a", "j", "kk", "l", "mm", "phandle", "pp", "reg", "status", "z"} {
			for _, value := range []string{"", "\x00", cells(7), texts("okay")} {
				y, e := tree.Set(x, path, name, value)
				if e != api.OK {
					t.Fatalf("error %d", e)
				}
				violates(t, y, l, before...)
			}
		}
	}
}
