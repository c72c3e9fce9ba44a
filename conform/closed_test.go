package conform_test

import (
	"slices"
	"strings"
	"testing"

	"bringup/api"
)

// standardNames are the properties that each node may have.
func standardNames() []string {
	return []string{"#address-cells", "#size-cells", "compatible", "phandle", "ranges", "reg", "status"}
}

// with returns a tree whose root has the compatible string a and some properties with values that say nothing.
func with(names ...string) api.Tree {
	l := []api.Property{compatible("a")}
	for _, s := range names {
		if s != "compatible" {
			l = append(l, property(s, "?"))
		}
	}
	slices.SortFunc(l, func(x, y api.Property) int { return strings.Compare(x.Name, y.Name) })
	return made(root(l...))
}

// extra returns the violations by properties that are too much.
func extra(names ...string) []api.Violation {
	var out []api.Violation
	for _, s := range names {
		out = append(out, bad(api.BadExtra, 0, "a", s))
	}
	return out
}

func TestStandardProperties(t *testing.T) {
	l := list(closed("a"))
	for _, s := range standardNames() {
		violates(t, with(s), l)
	}
	violates(t, with(standardNames()...), l)
	// Their values do not matter.
	violates(t, made(root(compatible("a"), property("phandle", ""), property("reg", texts("reg")), property("status", cells(0)))), l)
	violates(t, made(root(compatible("a", "b")), node(0, "x", compatible("b", "a"), property("reg", "\x01"))), l)
}

func TestPropertiesThatAreNotStandard(t *testing.T) {
	names := []string{"#", "#Address-cells", "#address-cell", "#address-cells-", "#cells", "#interrupt-cells", "Compatible", "Reg", "a", "address-cells", "compatibl", "compatible-", "label", "linux,phandle", "model", "phandl", "phandles", "range", "ranges,", "re", "reg-names", "regs", "size-cells", "statu", "status_", "z"}
	for _, s := range names {
		violates(t, with(s), list(closed("a")), extra(s)...)
		violates(t, with(s), list(open("a")))
		violates(t, with(append(standardNames(), s)...), list(closed("a")), extra(s)...)
	}
	for l := range slices.Chunk(names, api.MaxProperties-7) {
		violates(t, with(append(standardNames(), l...)...), list(closed("a")), extra(l...)...)
		violates(t, with(append(standardNames(), l...)...), list(open("a")))
	}
}

func TestPropertiesWithRules(t *testing.T) {
	for _, must := range []bool{false, true} {
		var l []api.Rule
		for _, s := range []string{"b", "d", "f"} {
			l = append(l, api.Rule{Name: s, Required: must, Kind: api.RuleAny})
		}
		violates(t, with("b", "d", "f"), list(closed("a", l...)))
		violates(t, with("a", "b", "c", "d", "e", "f", "g"), list(closed("a", l...)), extra("a", "c", "e", "g")...)
		violates(t, with("a", "b", "c", "d", "e", "f", "g"), list(open("a", l...)))
		violates(t, with("B", "b", "bb", "d", "f"), list(closed("a", l...)), extra("B", "bb")...)
	}
	// A property that breaks its rule is none that is too much, and rules for other properties permit nothing.
	violates(t, with("b"), list(closed("a", rule("b", api.RuleEmpty))), bad(api.BadKind, 0, "a", "b"))
	violates(t, with("b", "c"), list(closed("a", rule("b", api.RuleEmpty))), bad(api.BadKind, 0, "a", "b"), bad(api.BadExtra, 0, "a", "c"))
	violates(t, with("b"), list(closed("a", required(rule("c", api.RuleAny)))), bad(api.BadMissing, 0, "a", "c"), bad(api.BadExtra, 0, "a", "b"))
	// Nor do the rules of other schemas.
	violates(t, with("b", "c"), list(closed("A", rule("b", api.RuleAny)), closed("a", rule("c", api.RuleAny)), open("b", rule("b", api.RuleAny))), extra("b")...)
}

func TestStandardPropertiesWithRules(t *testing.T) {
	for _, s := range standardNames() {
		if s == "compatible" {
			continue
		}
		for _, l := range [][]api.Schema{list(open("a", rule(s, api.RuleEmpty))), list(closed("a", rule(s, api.RuleEmpty))), list(closed("a", required(rule(s, api.RuleEmpty))))} {
			violates(t, with(s), l, bad(api.BadKind, 0, "a", s))
			violates(t, made(root(compatible("a"), property("zz", ""))), l, slices.Concat(
				slices.Repeat([]api.Violation{bad(api.BadMissing, 0, "a", s)}, count(l[0].Rules[0].Required)),
				slices.Repeat(extra("zz"), count(l[0].Closed)))...)
		}
	}
	// The compatible strings may have a rule, too.
	x := made(root(compatible("a", "b")))
	violates(t, x, list(closed("a", counted("compatible", api.RuleText, 2))))
	violates(t, x, list(closed("a", counted("compatible", api.RuleText, 1))), bad(api.BadCount, 0, "a", "compatible"))
	violates(t, x, list(open("a", worded("compatible", "a"))), bad(api.BadCount, 0, "a", "compatible"))
	violates(t, with(), list(open("a", worded("compatible", "a"))))
	violates(t, with(), list(open("a", worded("compatible", "b"))), bad(api.BadRange, 0, "a", "compatible"))
	violates(t, with(), list(open("a", rule("compatible", api.RuleHandle))), bad(api.BadKind, 0, "a", "compatible"))
}

// count returns 1 for what is, and 0 for what is not.
func count(is bool) int {
	if is {
		return 1
	}
	return 0
}
