package conform_test

import (
	"strconv"
	"testing"

	"bringup/api"
)

// named returns so many names, ascending.
func named(prefix string, n int) []string {
	var out []string
	for i := range n {
		out = append(out, prefix+strconv.Itoa(100+i))
	}
	return out
}

// strict returns schemas from m00 to m16 of which each one requires so many properties, and the closed schema e without rules.
func strict() []api.Schema {
	l := list(closed("e"))
	for i := range api.MaxRules + 1 {
		s := open("m" + strconv.Itoa(100+i))
		for _, name := range named("r", i) {
			s.Rules = append(s.Rules, required(rule(name, api.RuleAny)))
		}
		l = append(l, s)
	}
	return l
}

// missing returns a node that breaks so many rules of those schemas, and its violations.
func missing(name string, index, n int) (api.Node, []api.Violation) {
	s := "m" + strconv.Itoa(100+n)
	var out []api.Violation
	for _, p := range named("r", n) {
		out = append(out, bad(api.BadMissing, index, s, p))
	}
	return node(0, name, compatible(s)), out
}

// surplus returns a node with so many properties that are too much, and its violations.
func surplus(name string, index, n int) (api.Node, []api.Violation) {
	out, want := node(0, name, compatible("e")), []api.Violation(nil)
	for _, p := range named("p", n) {
		out.Properties = append(out.Properties, property(p, ""))
		want = append(want, bad(api.BadExtra, index, "e", p))
	}
	return out, want
}

// unknown returns a node without a schema, and its violation.
func unknown(name string, index, _ int) (api.Node, []api.Violation) {
	return node(0, name, compatible("u", "v")), []api.Violation{bad(api.BadUnknown, index, "u", "")}
}

// broken returns a tree with so many violations, if there is room for them, of nodes that have up to so many each, and the violations.
func broken(n, each int, build func(name string, index, n int) (api.Node, []api.Violation)) (api.Tree, []api.Violation) {
	x, want := made(root()), []api.Violation(nil)
	for i, name := range named("n", api.MaxNodes-1) {
		if len(want) == n {
			break
		}
		made, more := build(name, i+1, min(each, n-len(want)))
		x.Nodes = append(x.Nodes, made)
		want = append(want, more...)
	}
	return x, want
}

// tooMany checks a tree with more violations than there may be.
func tooMany(t *testing.T, x api.Tree, l []api.Schema, want []api.Violation) {
	t.Helper()
	if len(want) <= api.MaxViolations {
		t.Fatalf("%d violations", len(want))
	}
	fails(t, x, l, api.ErrLimit)
	holds(t, x, l, want)
}

func TestNumberOfViolations(t *testing.T) {
	l := strict()
	for _, n := range []int{api.MaxViolations - 1, api.MaxViolations, api.MaxViolations + 1, api.MaxViolations + 2, api.MaxViolations + 30} {
		for _, each := range []int{2, 7, 15, 16} {
			x, want := broken(n, each, missing)
			if len(want) != n {
				t.Fatalf("%d violations, not %d", len(want), n)
			}
			if n <= api.MaxViolations {
				violates(t, x, l, want...)
			} else {
				tooMany(t, x, l, want)
			}
		}
		for _, each := range []int{2, 10, 23} {
			x, want := broken(n, each, surplus)
			if n <= api.MaxViolations {
				violates(t, x, l, want...)
			} else {
				tooMany(t, x, l, want)
			}
		}
	}
}

func TestViolationsOfTheLastNode(t *testing.T) {
	l := strict()
	for _, n := range []int{api.MaxViolations - 16, api.MaxViolations - 2, api.MaxViolations - 1, api.MaxViolations} {
		x, want := broken(n, 16, missing)
		for _, more := range []struct {
			build func(string, int, int) (api.Node, []api.Violation)
			n     int
		}{{missing, 1}, {missing, 2}, {missing, 16}, {surplus, 1}, {surplus, 16}, {surplus, 17}, {surplus, 23}, {unknown, 1}} {
			last, its := more.build("z", len(x.Nodes), more.n)
			y, all := made(append(x.Nodes[:len(x.Nodes):len(x.Nodes)], last)...), append(want[:n:n], its...)
			if len(all) <= api.MaxViolations {
				violates(t, y, l, all...)
			} else {
				tooMany(t, y, l, all)
			}
			// Nodes without violations behind it change nothing.
			y.Nodes = append(y.Nodes, node(0, "zz", compatible("m100")), node(0, "zzz"))
			if len(all) <= api.MaxViolations {
				violates(t, y, l, all...)
			} else {
				tooMany(t, y, l, all)
			}
		}
	}
}

func TestAsManyViolationsAsThereCanBe(t *testing.T) {
	// Each node lacks what 16 rules require, and has 23 properties that are too much.
	s := closed("s")
	for _, name := range named("r", api.MaxRules) {
		s.Rules = append(s.Rules, required(rule(name, api.RuleAny)))
	}
	var x api.Tree
	var want []api.Violation
	for i, name := range named("n", api.MaxNodes) {
		n := node(0, name, compatible("s"))
		if i == 0 {
			n = root(compatible("s"))
		}
		for _, r := range s.Rules {
			want = append(want, bad(api.BadMissing, i, "s", r.Name))
		}
		for _, p := range named("p", api.MaxProperties-1) {
			n.Properties = append(n.Properties, property(p, ""))
			want = append(want, bad(api.BadExtra, i, "s", p))
		}
		x.Nodes = append(x.Nodes, n)
	}
	tooMany(t, x, list(s), want)
	tooMany(t, x, list(open("a"), s, open("z")), want)
	fails(t, x, list(s, s), api.ErrOrder)
	fails(t, x, list(s, closed("z", rule("p", 0))), api.ErrInvalid)
	x.Nodes[5].Name = "n"
	fails(t, x, list(s), api.ErrOrder)
	x.Nodes[5].Name = "n n"
	fails(t, x, list(s, s), api.ErrInvalid)
}

// TestNodesWithoutSchemas checks that each node of a tree can be unknown.
func TestNodesWithoutSchemas(t *testing.T) {
	x, want := broken(api.MaxNodes-1, 1, unknown)
	violates(t, x, nil, want...)
	x.Nodes[0].Properties = []api.Property{compatible("r")}
	violates(t, x, strict(), append([]api.Violation{bad(api.BadUnknown, 0, "r", "")}, want...)...)
}

// TestFullTreeThatConforms checks a tree with as many nodes, and schemas with as many rules, as there can be.
func TestFullTreeThatConforms(t *testing.T) {
	s := closed("s")
	for _, name := range named("r", api.MaxRules) {
		s.Rules = append(s.Rules, required(counted(name, api.RuleHandle, 2)))
	}
	var x api.Tree
	for i, name := range named("n", api.MaxNodes) {
		n := node(0, name, compatible("s"), property("phandle", cells(uint32(i+1))))
		if i == 0 {
			n.Parent, n.Name = -1, ""
		}
		for k, r := range s.Rules {
			n.Properties = append(n.Properties, property(r.Name, cells(uint32((i*17+k)%api.MaxNodes+1), 0)))
		}
		x.Nodes = append(x.Nodes, n)
	}
	violates(t, x, list(s))
	// Without its phandle the last node cannot be named: 16 properties do.
	x.Nodes[api.MaxNodes-1].Properties[1].Value = cells(0)
	var want []api.Violation
	for i := range x.Nodes {
		for k, r := range s.Rules {
			if (i*17+k)%api.MaxNodes == api.MaxNodes-1 {
				want = append(want, bad(api.BadHandle, i, "s", r.Name))
			}
		}
	}
	violates(t, x, list(s), want...)
}
