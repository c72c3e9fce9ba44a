package conform_test

import (
	"strings"
	"testing"

	"bringup/api"
)

const fits = 0

// conforms checks the kind of what a value breaks of a rule, alone and among others.
func conforms(t *testing.T, r api.Rule, value string, want int) {
	t.Helper()
	one, two := property("phandle", cells(1)), property("phandle", cells(api.MaxPhandle))
	for _, must := range []bool{false, true} {
		r.Required = must
		x := made(root(one), node(0, "x", compatible("a"), property(r.Name, value)), node(0, "y", two))
		l := list(open("a", r))
		among := list(open("A"), closed("a", required(rule("#", api.RuleAny)), r, required(rule("z", api.RuleEmpty))), open("b", rule(r.Name, api.RuleAny)))
		missing := []api.Violation{bad(api.BadMissing, 1, "a", "#"), bad(api.BadMissing, 1, "a", "z")}
		if want == fits {
			violates(t, x, l)
			violates(t, x, among, missing...)
		} else {
			violates(t, x, l, bad(want, 1, "a", r.Name))
			violates(t, x, among, missing[0], bad(want, 1, "a", r.Name), missing[1])
		}
	}
}

// someValues are values of all kinds.
func someValues() []string {
	return []string{"", "\x00", "\x00\x00", "a", "a\x00", "abc", "abc\x00", "abcd", "\x00abc", "ab\x00\x00", "a\x00b\x00", "a\x00b", "\x7f\x00", "\x1f\x00", " \x00", "~\x00",
		cells(0), cells(1), cells(2), cells(0, 0), cells(1, 2, 3), cells(api.MaxCell), texts("okay"), texts("a", "b", "c"), "\xff", "\x01\x02\x03\x04\x05",
		strings.Repeat("\x00", api.MaxValue), strings.Repeat("a\x00", api.MaxValue/2), strings.Repeat("\xff", api.MaxValue-1)}
}

func TestRuleAny(t *testing.T) {
	for _, v := range someValues() {
		conforms(t, rule("p", api.RuleAny), v, fits)
	}
}

func TestRuleEmpty(t *testing.T) {
	conforms(t, rule("p", api.RuleEmpty), "", fits)
	for _, v := range someValues()[1:] {
		conforms(t, rule("p", api.RuleEmpty), v, api.BadKind)
	}
}

func TestMissing(t *testing.T) {
	for _, r := range []api.Rule{rule("p", api.RuleAny), rule("p", api.RuleEmpty), ranged("p", 0, 1, 0), ranged("p", 0, 1, 1), worded("p", "w"), rule("p", api.RuleText), counted("p", api.RuleText, 2), rule("p", api.RuleHandle), counted("p", api.RuleHandle, 2)} {
		for _, n := range []api.Node{root(compatible("a")), root(compatible("a"), property("o", ""), property("q", "")), root(property("P", ""), compatible("a"), property("pp", ""))} {
			violates(t, made(n), list(open("a", r)))
			violates(t, made(n), list(open("a", required(r))), bad(api.BadMissing, 0, "a", "p"))
		}
		// The properties of other nodes do not matter.
		x := made(root(property("p", "")), node(0, "x", compatible("a")), node(1, "y", property("p", "")), node(0, "z", property("p", "")))
		violates(t, x, list(open("a", r)))
		violates(t, x, list(open("a", required(r))), bad(api.BadMissing, 1, "a", "p"))
	}
	// A property with an empty value is there.
	violates(t, made(root(compatible("a"), property("p", ""))), list(open("a", required(rule("p", api.RuleAny)))))
	// Standard properties can be required, too.
	violates(t, made(root(compatible("a"))), list(closed("a", required(rule("reg", api.RuleAny)), required(rule("status", api.RuleAny)))), bad(api.BadMissing, 0, "a", "reg"), bad(api.BadMissing, 0, "a", "status"))
}

func TestCellsOfAnyCount(t *testing.T) {
	r := ranged("p", 5, 9, 0)
	for n := range uint32(15) {
		want := fits
		if n < 5 || n > 9 {
			want = api.BadRange
		}
		conforms(t, r, cells(n), want)
		conforms(t, r, cells(n, 7), want)
		conforms(t, r, cells(7, n), want)
		conforms(t, r, cells(5, 9, n, 6), want)
		conforms(t, r, strings.Repeat(cells(6), api.MaxValue/4-1)+cells(n), want)
	}
	conforms(t, r, strings.Repeat(cells(8), api.MaxValue/4), fits)
	for _, v := range []string{"", "\x00", "\x00\x00\x07", "\x00\x00\x00\x07\x07", cells(7) + "\x00\x00\x00", "7", "7\x00", strings.Repeat("\x00", api.MaxValue-1)} {
		conforms(t, r, v, api.BadKind)
	}
}

func TestEdgesOfCells(t *testing.T) {
	for _, c := range []struct{ low, high int }{{0, 0}, {0, 1}, {1, 1}, {255, 256}, {1, 4000000000}, {0, api.MaxCell}, {api.MaxCell, api.MaxCell}, {1 << 31, 1<<31 + 5}, {1<<31 - 1, 1 << 31}, {0, api.MaxCell - 1}} {
		for _, n := range []int{0, 1, 2, 254, c.low - 1, c.low, c.low + 1, c.high - 1, c.high, c.high + 1, api.MaxCell - 1, api.MaxCell} {
			want := fits
			if n < c.low || n > c.high {
				want = api.BadRange
			}
			if n >= 0 && n <= api.MaxCell {
				conforms(t, ranged("p", c.low, c.high, 0), cells(uint32(n)), want)
				conforms(t, ranged("p", c.low, c.high, 1), cells(uint32(n)), want)
			}
		}
	}
	// A value of printable bytes is cells nevertheless.
	conforms(t, ranged("p", 0x61626300, 0x61626300, 1), "abc\x00", fits)
	conforms(t, ranged("p", 0x61626301, api.MaxCell, 1), "abc\x00", api.BadRange)
}

func TestCountOfCells(t *testing.T) {
	for _, count := range []int{1, 2, 3, 63, 64} {
		for n := range api.MaxValue / 4 {
			want := api.BadCount
			if n+1 == count {
				want = fits
			}
			conforms(t, ranged("p", 2, 3, count), strings.Repeat(cells(2), n+1), want)
		}
		conforms(t, ranged("p", 2, 3, count), "", api.BadKind)
	}
}

func TestFirstFaultOfCells(t *testing.T) {
	r := ranged("p", 5, 9, 2)
	conforms(t, r, cells(5, 9), fits)
	// Of a value of another kind nothing else is looked at; another count comes before the range.
	conforms(t, r, "\x00\x00\x00\x00\x00", api.BadKind)
	conforms(t, r, "", api.BadKind)
	conforms(t, r, cells(4), api.BadCount)
	conforms(t, r, cells(4, 5, 6), api.BadCount)
	conforms(t, r, cells(7), api.BadCount)
	conforms(t, r, cells(4, 5), api.BadRange)
	conforms(t, r, cells(5, 10), api.BadRange)
	conforms(t, r, cells(0, api.MaxCell), api.BadRange)
}

func TestWords(t *testing.T) {
	r := worded("p", "okay", "disabled", "~!", "a")
	for _, s := range []string{"okay", "disabled", "~!", "a"} {
		conforms(t, r, texts(s), fits)
		for _, wrong := range []string{s + s, strings.ToUpper(s) + "x", " " + s, s + " ", s[:len(s)-1] + "\"", s + ", " + s} {
			conforms(t, r, texts(wrong), api.BadRange)
		}
		// It must be a string, and exactly one.
		for _, v := range []string{"", s, s + "\x00\x00", "\x00" + s + "\x00", s + "\x00a", s + "\x01\x00", "\xff" + s + "\x00", "\x00", cells(1)} {
			conforms(t, r, v, api.BadKind)
		}
		for _, v := range []string{texts(s, s), texts(s, "a"), texts("a", s), texts(s, "none"), texts("none", s), texts("none", "none"), texts("a", s, "a")} {
			conforms(t, r, v, api.BadCount)
		}
	}
	for _, s := range []string{"none", "oka", "okayy", "Okay", "p", "b", "A", "okay disabled", " ", "okay\\0", strings.Repeat("a", api.MaxValue-1)} {
		conforms(t, r, texts(s), api.BadRange)
		conforms(t, r, texts(s)[:len(s)], api.BadKind)
	}
	conforms(t, worded("p", "okay"), texts("disabled"), api.BadRange)
	// A string of three bytes is a cell, too, but that does not matter.
	conforms(t, worded("p", "abc"), cells(0x61626300), fits)
	all := make([]string, api.MaxWords)
	for i := range all {
		all[i] = strings.Repeat("w", i+1)
	}
	for _, s := range all {
		conforms(t, worded("p", all...), texts(s), fits)
	}
	conforms(t, worded("p", all...), texts(strings.Repeat("w", api.MaxWords+1)), api.BadRange)
}

func TestTexts(t *testing.T) {
	for _, count := range []int{0, 1, 2, 3, 63, 64} {
		r := counted("p", api.RuleText, count)
		for n := 1; n <= api.MaxValue/2; n++ {
			want := fits
			if count != 0 && n != count {
				want = api.BadCount
			}
			conforms(t, r, strings.Repeat("t\x00", n), want)
		}
		// What is no strings is not counted.
		for _, v := range []string{"", "\x00", "a", "a\x00\x00", "\x00a\x00", "a\x00b", "a\x1f\x00", "\x7f\x00", "\xff\x00", "a\x00\x00b\x00", cells(1), cells(1, 2), strings.Repeat("a", api.MaxValue)} {
			conforms(t, r, v, api.BadKind)
		}
	}
	conforms(t, rule("p", api.RuleText), texts(" ", "~", "\"\\", "any text"), fits)
	conforms(t, rule("p", api.RuleText), cells(0x61626300), fits)
	conforms(t, counted("p", api.RuleText, 2), cells(0x61006200), fits)
	conforms(t, counted("p", api.RuleText, 1), texts(strings.Repeat("a", api.MaxValue-1)), fits)
}

func TestHandles(t *testing.T) {
	// The phandles of the tree are 1 and MaxPhandle.
	any := rule("p", api.RuleHandle)
	for _, n := range []uint32{1, api.MaxPhandle} {
		conforms(t, any, cells(n), fits)
		conforms(t, any, cells(n, 0, api.MaxCell, 7), fits)
		conforms(t, any, cells(n)+strings.Repeat("\xff", api.MaxValue-4), fits)
		conforms(t, counted("p", api.RuleHandle, 1), cells(n), fits)
		conforms(t, counted("p", api.RuleHandle, 2), cells(n, 9), fits)
		conforms(t, counted("p", api.RuleHandle, 64), strings.Repeat(cells(n), 64), fits)
	}
	for _, n := range []uint32{0, 2, 3, 0x100, 0x01000000, api.MaxPhandle - 1, api.MaxPhandle + 1, 1 << 31, api.MaxCell} {
		conforms(t, any, cells(n), api.BadHandle)
		// Only the first one counts.
		conforms(t, any, cells(n, 1), api.BadHandle)
		conforms(t, any, cells(n, 1, api.MaxPhandle), api.BadHandle)
		conforms(t, any, cells(1, n), fits)
		conforms(t, counted("p", api.RuleHandle, 1), cells(n), api.BadHandle)
		conforms(t, counted("p", api.RuleHandle, 2), cells(n, 1), api.BadHandle)
	}
	for _, v := range []string{"", "\x01", "\x00\x00\x01", "\x00\x00\x00\x01\x00", cells(1) + "\x01\x02", "a\x00", texts("a", "b", "c")[:5]} {
		conforms(t, any, v, api.BadKind)
		conforms(t, counted("p", api.RuleHandle, 1), v, api.BadKind)
		conforms(t, counted("p", api.RuleHandle, 2), v, api.BadKind)
	}
}

func TestFirstFaultOfHandles(t *testing.T) {
	for _, count := range []int{1, 2, 3, 63, 64} {
		for n := 1; n <= api.MaxValue/4; n++ {
			want := [2]int{fits, api.BadHandle}
			if n != count {
				want = [2]int{api.BadCount, api.BadCount}
			}
			for i, first := range []uint32{1, 2} {
				conforms(t, counted("p", api.RuleHandle, count), cells(first)+strings.Repeat(cells(1), n-1), want[i])
			}
		}
	}
}

// TestPhandlesOfTheTree checks what the phandles of a tree are: single cells from 1 to MaxPhandle.
func TestPhandlesOfTheTree(t *testing.T) {
	l := list(open("a", rule("p", api.RuleHandle)))
	x := func(phandle string, number uint32) api.Tree {
		return made(root(), node(0, "x", compatible("a"), property("p", cells(number))), node(1, "y", property("phandle", phandle)), node(0, "z", property("handle", cells(number)), property("phandl", cells(number))))
	}
	for _, n := range []uint32{1, 2, 0x1234, api.MaxPhandle - 1, api.MaxPhandle} {
		violates(t, x(cells(n), n), l)
		for _, v := range []string{"", "\x01", cells(n, n), cells(n) + "\x00", cells(n)[1:], cells(n + 1), cells(n - 1), cells(0), cells(1 << 31)} {
			violates(t, x(v, n), l, bad(api.BadHandle, 1, "a", "p"))
		}
	}
	for _, n := range []uint32{0, api.MaxPhandle + 1, 1 << 31, api.MaxCell} {
		violates(t, x(cells(n), n), l, bad(api.BadHandle, 1, "a", "p"))
	}
	// A node can name itself, the root, and one whose phandle another one has, too.
	p := property("p", cells(3))
	violates(t, made(root(compatible("a"), p, property("phandle", cells(3)))), l)
	violates(t, made(root(property("phandle", cells(3))), node(0, "x", compatible("a"), p)), l)
	violates(t, made(root(), node(0, "x", compatible("a"), p), node(0, "y", property("phandle", cells(3))), node(0, "z", property("phandle", cells(3)))), l)
	// Many nodes name some, the same ones and others, again and again.
	many, want := made(root(property("phandle", cells(3)))), []api.Violation(nil)
	for i, n := range []uint32{3, 0, 4, 3, 0, 4, 5, 5, 3, 0, api.MaxCell, 3, 4} {
		many.Nodes = append(many.Nodes, node(0, "x"+string(rune('a'+i)), compatible("a"), property("p", cells(n))))
		if n != 3 {
			want = append(want, bad(api.BadHandle, i+1, "a", "p"))
		}
	}
	violates(t, many, l, want...)
}
