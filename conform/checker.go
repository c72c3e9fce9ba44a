package conform

import (
	"slices"

	"bringup/api"
	"bringup/label"
	"bringup/print"
)

// fits is what is wrong with a property that fits its rule.
const fits = 0

// checker looks for violations of a valid tree.
type checker struct {
	nodes     []api.Node
	schemas   []api.Schema
	isPhandle func(number int) bool
}

func newChecker(t api.Tree, l []api.Schema) checker {
	return checker{nodes: t.Nodes, schemas: l, isPhandle: phandles(t)}
}

// phandles returns a function that says which numbers are phandles of a tree.
func phandles(t api.Tree) func(number int) bool {
	// label.Phandle checks the whole tree, so each number is asked for only once.
	known := map[int]bool{}
	return func(number int) bool {
		is, asked := known[number]
		if !asked {
			_, is = label.Phandle(t, number)
			known[number] = is
		}
		return is
	}
}

// node returns the violations of a node.
func (c checker) node(node int) []api.Violation {
	n := c.nodes[node]
	names := compatible(n)
	if len(names) == 0 {
		return nil
	}
	at, ok := governing(c.schemas, names)
	if !ok {
		return []api.Violation{{Kind: api.BadUnknown, Node: node, Schema: names[0]}}
	}
	s := c.schemas[at]
	var out []api.Violation
	add := func(kind int, property string) {
		out = append(out, api.Violation{Kind: kind, Node: node, Schema: s.Compatible, Property: property})
	}
	for _, r := range s.Rules {
		if kind := c.rule(n, r); kind != fits {
			add(kind, r.Name)
		}
	}
	for _, p := range n.Properties {
		if s.Closed && !permitted(s.Rules, p.Name) {
			add(api.BadExtra, p.Name)
		}
	}
	return out
}

// permitted reports whether a node of a closed schema with some rules may have a property.
func permitted(rules []api.Rule, name string) bool {
	return isStandard(name) || slices.ContainsFunc(rules, func(r api.Rule) bool { return r.Name == name })
}

// rule returns the kind of what a node breaks of a rule.
func (c checker) rule(n api.Node, r api.Rule) int {
	value, ok := valueOf(n, r.Name)
	switch {
	case !ok && r.Required:
		return api.BadMissing
	case !ok:
		return fits
	}
	return c.value(value, r)
}

// value returns the kind of what the value of a property breaks of its rule.
func (c checker) value(value string, r api.Rule) int {
	switch r.Kind {
	case api.RuleEmpty:
		if value != "" {
			return api.BadKind
		}
	case api.RuleCells, api.RuleHandle:
		return c.cells(value, r)
	case api.RuleText, api.RuleWord:
		return texts(value, r)
	}
	return fits
}

// cells returns the kind of what a value breaks of a rule about cells.
func (c checker) cells(value string, r api.Rule) int {
	l, ok := print.Cells(value)
	outside := func(number int) bool { return number < r.Low || number > r.High }
	switch {
	case !ok:
		return api.BadKind
	case r.Count != 0 && len(l) != r.Count:
		return api.BadCount
	case r.Kind == api.RuleCells && slices.ContainsFunc(l, outside):
		return api.BadRange
	case r.Kind == api.RuleHandle && !c.isPhandle(l[0]):
		return api.BadHandle
	}
	return fits
}

// texts returns the kind of what a value breaks of a rule about strings.
func texts(value string, r api.Rule) int {
	l, ok := print.Strings(value)
	count := r.Count
	if r.Kind == api.RuleWord {
		count = 1
	}
	switch {
	case !ok:
		return api.BadKind
	case count != 0 && len(l) != count:
		return api.BadCount
	case r.Kind == api.RuleWord && !slices.Contains(r.Words, l[0]):
		return api.BadRange
	}
	return fits
}
