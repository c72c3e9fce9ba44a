package source_test

import (
	"reflect"
	"strconv"
	"strings"
	"testing"

	"bringup/api"
	"bringup/source"
)

const file = 5

func at(line, column int) api.Position {
	return api.Position{File: file, Line: line, Column: column}
}

func node(label, name string) api.Definition {
	return api.Definition{Kind: api.DefNode, Label: label, Name: name}
}

func property(name string, parts ...api.Part) api.Definition {
	return api.Definition{Kind: api.DefProperty, Name: name, Parts: parts}
}

func end() api.Definition { return api.Definition{Kind: api.DefEnd} }

func named(kind int, name string) api.Definition { return api.Definition{Kind: kind, Name: name} }

func cells(l ...api.Cell) api.Part { return api.Part{Kind: api.PartCells, Cells: l} }

func number(n int) api.Cell { return api.Cell{Value: n} }

func handle(label string) api.Cell { return api.Cell{Label: label} }

func quoted(s string) api.Part { return api.Part{Kind: api.PartString, Text: s} }

func bytes(s string) api.Part { return api.Part{Kind: api.PartBytes, Text: s} }

func path(label string) api.Part { return api.Part{Kind: api.PartPath, Text: label} }

// plain returns definitions in a form in which nil and empty lists are the same.
func plain(l []api.Definition) []api.Definition {
	out := append([]api.Definition{}, l...)
	for i := range out {
		out[i].Parts = append([]api.Part{}, out[i].Parts...)
		for j := range out[i].Parts {
			out[i].Parts[j].Cells = append([]api.Cell{}, out[i].Parts[j].Cells...)
		}
	}
	return out
}

// same compares definitions without the function of the package that does so.
func same(a, b []api.Definition) bool { return reflect.DeepEqual(plain(a), plain(b)) }

// placeless returns definitions without their positions.
func placeless(l []api.Definition) []api.Definition {
	out := append([]api.Definition{}, l...)
	for i := range out {
		out[i].Position = api.Position{}
	}
	return out
}

// read returns the definitions of a text that has no error.
func read(t *testing.T, text string) []api.Definition {
	t.Helper()
	l, p, e := source.Read(text, file)
	if e != api.OK || p != (api.Position{}) {
		t.Errorf("%.200q: error %d at %v", text, e, p)
	}
	return l
}

// reads checks that a text has these definitions, whatever their positions are.
func reads(t *testing.T, text string, want ...api.Definition) {
	t.Helper()
	if got := placeless(read(t, text)); !same(got, want) {
		t.Errorf("%.200q: %v, not %v", text, got, want)
	}
}

// has checks that members of the root have these definitions, at different places.
func has(t *testing.T, members string, want ...api.Definition) {
	t.Helper()
	inside := append([]api.Definition{node("", "/")}, want...)
	reads(t, "/ {"+members+"};", append(inside, end())...)
	below := append([]api.Definition{node("", "&r"), property("b"), node("l", "n")}, want...)
	reads(t, "&r { b; l: n {"+members+"}; a; };", append(below, end(), property("a"), end())...)
}

// gives checks that the text of a value has these parts.
func gives(t *testing.T, value string, want ...api.Part) {
	t.Helper()
	has(t, "p = "+value+";", property("p", want...))
	has(t, "p="+value+";", property("p", want...))
	has(t, "q;#p = "+value+" ;r;", property("q"), property("#p", want...), property("r"))
}

// places checks the positions of the definitions of a text.
func places(t *testing.T, text string, want ...api.Position) {
	t.Helper()
	var got []api.Position
	for _, d := range read(t, text) {
		got = append(got, d.Position)
	}
	if !reflect.DeepEqual(got, want) {
		t.Errorf("%.200q: %v, not %v", text, got, want)
	}
}

func TestExampleOfTheChapter(t *testing.T) {
	text := "/ { a: b { x = <1 &a>, \"t\"; y; }; };"
	reads(t, text, node("", "/"), node("a", "b"), property("x", cells(number(1), handle("a")), quoted("t")), property("y"), end(), end())
	places(t, text, at(1, 1), at(1, 5), at(1, 12), at(1, 29), at(1, 32), at(1, 35))
}

func TestEmptyTexts(t *testing.T) {
	for _, s := range []string{"", " ", "\n\t\r", "// / { };", "/* / { }; */"} {
		reads(t, s)
		reads(t, s+"\n/ { };"+s, node("", "/"), end())
	}
}

func TestTops(t *testing.T) {
	reads(t, "/ { };", node("", "/"), end())
	reads(t, "/{};", node("", "/"), end())
	reads(t, "l: / { };", node("l", "/"), end())
	reads(t, "l:/{};", node("l", "/"), end())
	reads(t, "&l { };", node("", "&l"), end())
	reads(t, "&_9 { a; };", node("", "&_9"), property("a"), end())
	reads(t, "/delete-node/ &l;", named(api.DefRemove, "&l"))
	for text, name := range map[string]string{`""`: "", `"a"`: "a", `"board.dts"`: "board.dts", `"a b\n\x00\xff\""`: "a b\n\x00\xff\"", `"&l"`: "&l", `"/"`: "/", `"` + strings.Repeat("n", 400) + `"`: strings.Repeat("n", 400)} {
		reads(t, "/include/ "+text+";", named(api.DefInclude, name))
		reads(t, "/include/"+text+" ; &a {};", named(api.DefInclude, name), node("", "&a"), end())
	}
	reads(t, "/include/ \"a\"; l: / { }; /delete-node/ &l; / { }; &m { }; /include/ \"a\";",
		named(api.DefInclude, "a"), node("l", "/"), end(), named(api.DefRemove, "&l"), node("", "/"), end(), node("", "&m"), end(), named(api.DefInclude, "a"))
}

func TestMembers(t *testing.T) {
	has(t, "")
	has(t, "a;", property("a"))
	has(t, "a = <1>;", property("a", cells(number(1))))
	has(t, "a { };", node("", "a"), end())
	has(t, "l: a { };", node("l", "a"), end())
	has(t, "/delete-property/ a;", named(api.DefDelete, "a"))
	has(t, "/delete-node/ a;", named(api.DefRemove, "a"))
	has(t, "a; a { }; a = \"a\"; l: a { a; }; /delete-property/ a; /delete-node/ a; a;",
		property("a"), node("", "a"), end(), property("a", quoted("a")), node("l", "a"), property("a"), end(), named(api.DefDelete, "a"), named(api.DefRemove, "a"), property("a"))
	has(t, "a { b { c; }; d; e { }; }; f;",
		node("", "a"), node("", "b"), property("c"), end(), property("d"), node("", "e"), end(), end(), property("f"))
}

// TestNamesOfMembers checks names of each kind where they are permitted, up to their greatest length.
func TestNamesOfMembers(t *testing.T) {
	long := strings.Repeat("n", api.MaxName)
	for _, s := range []string{"a", "_", "Z9", "a,b", "a.b+c-d?e#f", "reg", "include", "delete-node", long, "a" + long[1:api.MaxName-1] + "-"} {
		has(t, s+";", property(s))
		has(t, s+" = \"s\";", property(s, quoted("s")))
		has(t, s+" { };", node("", s), end())
		has(t, "l: "+s+" { };", node("l", s), end())
		has(t, "/delete-property/ "+s+";", named(api.DefDelete, s))
		has(t, "/delete-node/ "+s+";", named(api.DefRemove, s))
	}
	for _, s := range []string{"a@1", "cpu@1f,0", "_@", "a@b@c", long[1:] + "@"} {
		has(t, s+" { };", node("", s), end())
		has(t, "l: "+s+" { };", node("l", s), end())
		has(t, "/delete-node/ "+s+";", named(api.DefRemove, s))
	}
	for _, s := range []string{"#", "#a", "#address-cells", "##", "#" + long[1:]} {
		has(t, s+";", property(s))
		has(t, s+" = <1>;", property(s, cells(number(1))))
		has(t, "/delete-property/ "+s+";", named(api.DefDelete, s))
	}
	for _, s := range []string{"a", "_", "Z9", "_0_a", long} {
		has(t, s+": a { };", node(s, "a"), end())
		reads(t, s+": / { };", node(s, "/"), end())
		reads(t, "&"+s+" { };", node("", "&"+s), end())
		reads(t, "/delete-node/ &"+s+";", named(api.DefRemove, "&"+s))
		gives(t, "&"+s, path(s))
		gives(t, "<&"+s+">", cells(handle(s)))
	}
}

func TestCells(t *testing.T) {
	gives(t, "<>", cells())
	gives(t, "< >", cells())
	gives(t, "<0>", cells(number(0)))
	gives(t, "<1 0x10 010 4294967295>", cells(number(1), number(16), number(8), number(api.MaxCell)))
	gives(t, "<&a>", cells(handle("a")))
	gives(t, "<&a &a 5 &b>", cells(handle("a"), handle("a"), number(5), handle("b")))
	gives(t, "<(1 + 2 * 3)>", cells(number(7)))
	gives(t, "<(1) (2)(3)>", cells(number(1), number(2), number(3)))
	gives(t, "<1(-1)&a>", cells(number(1), number(api.MaxCell), handle("a")))
	gives(t, "<(2 > 1) ((1 >> 1) < 1)>", cells(number(1), number(1)))
	gives(t, "<(0 ? 1 : 2) (1 << 31)>", cells(number(2), number(1<<31)))
	gives(t, "<"+strings.Repeat("(", api.MaxDepth)+"6"+strings.Repeat(")", api.MaxDepth)+">", cells(number(6)))
	var many []api.Cell
	text := ""
	for i := range 1000 {
		many = append(many, number(i))
		text += " " + strconv.Itoa(i)
	}
	reads(t, "/ { p = <"+text+">; };", node("", "/"), property("p", cells(many...)), end())
}

func TestStringsBytesAndPaths(t *testing.T) {
	for text, want := range map[string]string{`""`: "", `"a"`: "a", `" a\tb "`: " a\tb ", `"\x00\xff\""`: "\x00\xff\"", `"<1>, [2]; }"`: "<1>, [2]; }", `"` + strings.Repeat("s", 2000) + `"`: strings.Repeat("s", 2000)} {
		gives(t, text, quoted(want))
	}
	for text, want := range map[string]string{"[]": "", "[ ]": "", "[0]": "\x00", "[255]": "\xff", "[0xff 010 7]": "\xff\x08\x07", "[1 2 3]": "\x01\x02\x03"} {
		gives(t, text, bytes(want))
	}
	for _, s := range []string{"<", ">", "[", "]", "{", "}", "(", ";", ",", "=", "/", "include", "delete-node", "a", "&a", "5"} {
		gives(t, strconv.Quote(s), quoted(s))
		gives(t, "<1>, "+strconv.Quote(s)+", [2]", cells(number(1)), quoted(s), bytes("\x02"))
	}
	gives(t, "&a", path("a"))
	all, text := "", ""
	for i := range 256 {
		gives(t, "["+strconv.Itoa(i)+"]", bytes(string([]byte{byte(i)})))
		all += string([]byte{byte(i)})
		text += " 0x" + strconv.FormatInt(int64(i), 16)
	}
	gives(t, "["+text+"]", bytes(all))
}

func TestSeveralParts(t *testing.T) {
	gives(t, "<1>, \"t\", [2], &a", cells(number(1)), quoted("t"), bytes("\x02"), path("a"))
	gives(t, "&a, [2], \"t\", <1>", path("a"), bytes("\x02"), quoted("t"), cells(number(1)))
	gives(t, "<>,<>", cells(), cells())
	gives(t, "[],[ ],\"\",\"\",&a,&a", bytes(""), bytes(""), quoted(""), quoted(""), path("a"), path("a"))
	gives(t, "<1>, <2>, <1>", cells(number(1)), cells(number(2)), cells(number(1)))
	gives(t, "<&a>, &a, \"a\", \"&a\"", cells(handle("a")), path("a"), quoted("a"), quoted("&a"))
}

// nested returns the text of a top with so many bodies, one in the other.
func nested(top string, bodies int) string {
	return top + " {" + strings.Repeat(" n {", bodies-1) + strings.Repeat(" };", bodies)
}

func TestDepth(t *testing.T) {
	for _, top := range []string{"/", "&r", "l: /"} {
		for bodies := 1; bodies <= api.MaxDepth+1; bodies++ {
			text := nested(top, bodies)
			if l := read(t, text); len(l) != 2*bodies {
				t.Errorf("%q: %d definitions", text, len(l))
			}
		}
	}
	// Bodies that have ended do not count.
	deepest := nested("/", api.MaxDepth+1)
	if l := read(t, strings.Repeat(deepest, 20)); len(l) != 40*(api.MaxDepth+1) {
		t.Errorf("%d definitions", len(l))
	}
	text := "/ {" + strings.Repeat(nested(" n", api.MaxDepth), 20) + " };"
	if l := read(t, text); len(l) != 2+40*api.MaxDepth {
		t.Errorf("%d definitions", len(l))
	}
}

func TestPositions(t *testing.T) {
	places(t, "/ {\n};", at(1, 1), at(2, 1))
	places(t, "\n l: /\n{\n  }\n;", at(2, 2), at(4, 3))
	places(t, "&l{ } ;", at(1, 1), at(1, 5))
	places(t, " /include/\n\"a\"; /delete-node/\n&l;", at(1, 2), at(2, 6))
	places(t, "/ {\n\ta;\n\tb =\n<1>, \"t\";\n\tl:\n\tc\n{\n}; d {};\n /delete-property/\ne; /delete-node/\nf; };",
		at(1, 1), at(2, 2), at(3, 2), at(5, 2), at(8, 1), at(8, 4), at(8, 7), at(9, 2), at(10, 4), at(11, 4))
	places(t, "/* */ / { /* a */ a; // b\n b; };", at(1, 7), at(1, 19), at(2, 2), at(2, 5))
	for _, f := range []int{-1, 0, 7, 1 << 40} {
		l, p, e := source.Read("/ { a; b { }; };", f)
		if e != api.OK || p != (api.Position{}) || len(l) != 5 {
			t.Errorf("file %d: error %d at %v, %d definitions", f, e, p, len(l))
		}
		for _, d := range l {
			if d.Position.File != f {
				t.Errorf("file %d, not %d", d.Position.File, f)
			}
		}
	}
}

// TestOneAfterTheOther checks that the definitions of two texts are those of both.
func TestOneAfterTheOther(t *testing.T) {
	texts := []string{"", "/ { };", "l: / { a = <1 (2) &l>; b { c; }; };", "&l {\n/delete-node/ b;\n};", "/delete-node/ &l;", "/include/ \"a\";", "// comment"}
	for _, a := range texts {
		for _, b := range texts {
			want := read(t, a)
			for _, d := range read(t, b) {
				d.Position.Line += 1 + strings.Count(a, "\n")
				want = append(want, d)
			}
			if got := read(t, a+"\n"+b); !same(got, want) {
				t.Errorf("%q and %q: %v, not %v", a, b, got, want)
			}
		}
	}
}

// TestResultsAreNew checks that what is done with a result changes neither another part of it nor another result.
func TestResultsAreNew(t *testing.T) {
	text := "/ { a = <1 2>, <3>; b = <4>, \"s\"; };"
	l := read(t, text)
	want := plain(read(t, text))
	l[1].Parts[0].Cells = append(l[1].Parts[0].Cells, number(9))
	l[1].Parts = append(l[1].Parts, quoted("x"))
	l[1].Parts[0].Cells[0].Value = 8
	if !same(l[2:], want[2:]) || !same([]api.Definition{property("", l[1].Parts[1])}, []api.Definition{property("", want[1].Parts[1])}) {
		t.Errorf("%v, not %v", l, want)
	}
	if got := read(t, text); !same(got, want) {
		t.Errorf("%v, not %v", got, want)
	}
}
