package source_test

import (
	"strings"
	"testing"

	"bringup/api"
	"bringup/source"
)

// mark stands in the texts of these tests before the token that has the error; it is no part of what is read.
const mark = "§"

// fails checks that a text has an error at its mark, and no definitions.
func fails(t *testing.T, text string, want api.Errno) {
	t.Helper()
	before, after, ok := strings.Cut(text, mark)
	if !ok || strings.Contains(after, mark) {
		t.Fatalf("%.200q has not one mark", text)
	}
	isError(t, before+after, want, at(1+strings.Count(before, "\n"), len(before)-strings.LastIndex(before, "\n")))
}

func isError(t *testing.T, text string, want api.Errno, place api.Position) {
	t.Helper()
	l, p, e := source.Read(text, file)
	if e != want || p != place || len(l) != 0 {
		t.Errorf("%.200q: error %d at %v with %d definitions, not %d at %v", text, e, p, len(l), want, place)
	}
}

// failsBehind checks an error behind each of several beginnings, whatever comes after it.
func failsBehind(t *testing.T, begins []string, text string, want api.Errno) {
	t.Helper()
	for _, begin := range begins {
		fails(t, begin+text, want)
		// An error at the end of the text would be another one if there were more text.
		if strings.HasSuffix(text, mark) {
			continue
		}
		for _, behind := range []string{" ;", " }; };", " / { };", " c; d = <1>;", " 5 < ) ] (1 / 0) [ 256 ] &l : { } /w/ \"s\" l: x"} {
			fails(t, begin+text+behind, want)
		}
	}
}

// failsAtTop checks errors at the top.
func failsAtTop(t *testing.T, text string, want api.Errno) {
	t.Helper()
	failsBehind(t, []string{"", "/ { };", "/include/ \"a\";\n &l { a; b { }; };\n"}, text, want)
}

// failsInside checks errors of what bodies contain.
func failsInside(t *testing.T, members string, want api.Errno) {
	t.Helper()
	failsBehind(t, []string{"/ {", "&l {", "/ { a = <1>; b { };\n", "\nl: / { m: a {"}, members, want)
}

// failsAsValue checks errors of the values of properties.
func failsAsValue(t *testing.T, value string, want api.Errno) {
	t.Helper()
	failsInside(t, "p = "+value, want)
	failsInside(t, "p = \"s\", <1 &a>,"+value, want)
}

var tooLong = strings.Repeat("n", api.MaxName+1)

func TestSyntaxAtTheTop(t *testing.T) {
	for _, s := range []string{"§a { };", "§a;", "§#", "§5", "§\"a\"", "§;", "§{ };", "§}", "§= <1>;", "§<", "§&& l { };", "§& { };", "§/w/ &l;", "§/-/", "§/delete-property/ a;"} {
		failsAtTop(t, s, api.ErrSyntax)
	}
	for _, s := range []string{"/§", "/ §;", "/ §a { };", "/ §= <1>;", "/ §&l { };", "/ §}", "/ §/ { };", "/ §5",
		"&l§", "&l §;", "&l §/ { };", "&l §a { };", "&l §= <1>;", "&l §&l { };", "&l §}"} {
		failsAtTop(t, s, api.ErrSyntax)
	}
	for _, s := range []string{"l:§", "l: §&l { };", "l: §m: / { };", "l: §a { };", "l: §;", "l: §{ };", "l: §5", "l: §/include/ \"a\";", "l: §/delete-node/ &l;", "§l : / { };"} {
		failsAtTop(t, s, api.ErrSyntax)
	}
	for _, s := range []string{"/include/§", "/include/ §;", "/include/ §a;", "/include/ §&a;", "/include/ §<1>;", "/include/ §{ };", "/include/ \"a\"§", "/include/ \"a\" §\"b\";", "/include/ \"a\" §, \"b\";", "/include/ \"a\" §{ };",
		"/delete-node/§", "/delete-node/ §;", "/delete-node/ §a;", "/delete-node/ §\"a\";", "/delete-node/ §/;", "/delete-node/ §l: a;", "/delete-node/ &l§", "/delete-node/ &l §&m;", "/delete-node/ &l §, &m;", "/delete-node/ &l §{ };"} {
		failsAtTop(t, s, api.ErrSyntax)
	}
	for _, s := range []string{"/ { }§", "&l { }§", "l: / { } §}", "/ { } §a;", "/ { } §, / { };", "&l { } §&l { };", "/ { }; §}", "/ { }; §a;"} {
		failsAtTop(t, s, api.ErrSyntax)
	}
}

func TestSyntaxInBodies(t *testing.T) {
	for _, s := range []string{"§", "a;§", "§;", "§{ };", "§5;", "§\"a\";", "§&l { };", "§/ { };", "§= <1>;", "§<1>;", "§,", "§:", "§/include/ \"a\";", "§/w/ a;", "a; §;"} {
		failsInside(t, s, api.ErrSyntax)
	}
	for _, s := range []string{"a§", "a §a;", "a §5;", "a §<1>;", "a §\"s\";", "a §, b;", "a §: b { };", "a §}", "a §/ { };", "a §l: b { };", "a §&l;", "a §== 1;"} {
		failsInside(t, s, api.ErrSyntax)
	}
	for _, s := range []string{"l:§", "l: §;", "l: §{ };", "l: §m: a { };", "l: §&a { };", "l: §/ { };", "l: §5", "l: §}", "l: §/delete-node/ a;", "l: §/delete-property/ a;",
		"l: a§", "l: a §;", "l: a §= <1>;", "l: a §b { };", "l: a §}", "l: a §/ { };"} {
		failsInside(t, s, api.ErrSyntax)
	}
	for _, w := range []string{"/delete-node/", "/delete-property/"} {
		for _, s := range []string{"§", " §;", " §&a;", " §\"a\";", " §5;", " §l: a;", " §/;", " §}", " a§", " a §b;", " a §, b;", " a §= <1>;", " a §{ };", " a §}"} {
			failsInside(t, w+s, api.ErrSyntax)
		}
	}
	for _, s := range []string{"a { }§", "a { } §}", "a { } §b;", "a { } §, b;", "l: a { } §l: b { };", "a { b; §; };"} {
		failsInside(t, s, api.ErrSyntax)
	}
}

func TestSyntaxOfValues(t *testing.T) {
	for _, s := range []string{"§", " §;", " §5;", " §a;", " §(1);", " §, <1>;", " §{ };", " §}", " §l: a;", " §/w/;", " §= <1>;", " §>;", " §];", " §<< 1 >>;", " §& a;", " §-;"} {
		failsAsValue(t, s, api.ErrSyntax)
	}
	for _, part := range []string{"<1>", "<>", "\"s\"", "[1]", "[]", "&a"} {
		for _, s := range []string{"§", " §}", " §5;", " §a;", " §<1>;", " §\"s\";", " §[1];", " §&a;", " §= <1>;", " §{ };", " §>;", " §];", ",§", ", §;", ", §, <1>;", ", §5", ", §a;", ",§}"} {
			failsAsValue(t, part+s, api.ErrSyntax)
		}
	}
	for _, s := range []string{"<§", "<1§", "< §;", "<1 §;", "<1 §}", "<1 §, 2>;", "<§a>;", "<§\"s\">;", "<§[1]>;", "< §< 1>;", "<1 §>>;", "<&a §}", "<&a§", "<1 §l: 2>;", "<1 §/w/>;", "<1 §]", "<1 §>=;"} {
		failsAsValue(t, s, api.ErrSyntax)
	}
	for _, s := range []string{"[§", "[1§", "[ §;", "[1 §;", "[1 §}", "[1 §, 2];", "[§a];", "[§\"s\"];", "[§&a];", "[§(1)];", "[§-1];", "[§[1]];", "[1 §>", "[§<1>];", "[1 §/w/];", "[1 §~2];"} {
		failsAsValue(t, s, api.ErrSyntax)
	}
}

// TestOnlyKindsCount checks that a text is no sign, word or name if it is that of a string.
func TestOnlyKindsCount(t *testing.T) {
	for _, s := range []string{"§\"/\" { };", "§\"include\" \"a\";", "§\"delete-node\" &l;", "/ §\"{\" };", "/ { }§\";\"", "&l { }§\";\"", "/delete-node/ &l §\";\"", "l: §\"/\" { };", "§include \"a\";", "/delete-node/ §\"l\";", "/delete-node/ §l;"} {
		failsAtTop(t, s, api.ErrSyntax)
	}
	for _, s := range []string{"§\"}\";", "§\"a\";", "§\"delete-node\" a;", "§\"delete-property\" a;", "delete-node §a;", "delete-property §a;", "a §\"{\" };", "a §\";\"", "a §\"=\" <1>;", "/delete-node/ §\"a\";", "/delete-property/ a §\";\"", "l: §\"a\" { };"} {
		failsInside(t, s, api.ErrSyntax)
	}
	for _, s := range []string{"\"s\" §\";\"", "\"s\" §\",\" \"s\";", "\"<\" §1>;", "\"[\" §1];", "<1 §\">\";", "<§\"(\" 1)>;", "<§\"1\">;", "[1 §\"]\";", "[§\"1\"];", "[§\"\"];"} {
		failsAsValue(t, s, api.ErrSyntax)
	}
}

// TestErrorsOfCells checks that the errors of expressions are those of expression.Primary, at the first token of the cell.
func TestErrorsOfCells(t *testing.T) {
	for _, begin := range []string{"<", "<1 ", "<&a ", "<(1) ", "<(1)\n\n"} {
		for _, s := range []string{"§(", "§()>;", "§(1", "§(1>;", "§(1 2)>;", "§(1 +)>;", "§(&a)>;", "§(a)>;", "§(1;)>;", "§((1)>;", "§(1 ? 2)>;", "§(\n1\n+\n;)>;", "§)>;", "§- 1>;", "§-1>;", "§~1>;", "§!1>;", "§+ 1>;", "§(1 / 0", "§((((((((((1>;"} {
			failsAsValue(t, begin+s, api.ErrSyntax)
		}
		for _, s := range []string{"1 §+ 2>;", "(1) §* 2>;", "1 §? 2 : 3>;", "1 §/ 0>;", "(1) §)>;", "1 §: 2>;"} {
			failsAsValue(t, begin+s, api.ErrSyntax)
		}
		failsAsValue(t, begin+"§(((((((((1)))))))))>;", api.ErrLimit)
		failsAsValue(t, begin+"§(1 + ((((((((1 / 0)))))))))", api.ErrLimit)
		failsAsValue(t, begin+"§(1 / 0)>;", api.ErrDivide)
		failsAsValue(t, begin+"§(1 + (2\n% (1 - 1)))", api.ErrDivide)
		failsAsValue(t, begin+"§(0 ? 1 / 0 : 2)", api.ErrDivide)
	}
	// Only the first cell with an error counts.
	failsAsValue(t, "<§(1 / 0) (1 + )>;", api.ErrDivide)
	failsAsValue(t, "<§(1 + ) (1 / 0)>;", api.ErrSyntax)
	failsAsValue(t, "<1>, <§(1 / 0)>, <a>;", api.ErrDivide)
	failsAsValue(t, "<§(1 / 0) &"+tooLong+">;", api.ErrDivide)
}

func TestBytesOutOfRange(t *testing.T) {
	for _, s := range []string{"256", "0x100", "0400", "257", "511", "512", "1000", "65536", "65537", "0x1000000", "4294967295"} {
		failsAsValue(t, "[§"+s+"];", api.ErrRange)
		failsAsValue(t, "[255 0 §"+s, api.ErrRange)
		failsAsValue(t, "[1], [§"+s+" a 256", api.ErrRange)
		failsAsValue(t, "[1 §a "+s+"];", api.ErrSyntax)
	}
}

func TestLabelsThatAreTooLong(t *testing.T) {
	for _, s := range []string{tooLong, "_" + tooLong, strings.Repeat("L9_", 300)} {
		for _, behind := range []string{"", " { };", " ;", " / { };", " a { };", " = <1>;", " 5"} {
			failsAtTop(t, "§"+s+":"+behind, api.ErrInvalid)
			failsAtTop(t, "§&"+s+behind, api.ErrInvalid)
			failsAtTop(t, "/delete-node/ §&"+s+behind, api.ErrInvalid)
			failsInside(t, "§"+s+":"+behind, api.ErrInvalid)
			failsAsValue(t, "§&"+s+behind, api.ErrInvalid)
			failsAsValue(t, "<§&"+s+behind, api.ErrInvalid)
			failsAsValue(t, "<1 &a §&"+s+behind, api.ErrInvalid)
			// What is of another kind than required is not looked at.
			failsInside(t, "§&"+s+behind, api.ErrSyntax)
			failsInside(t, "l: §"+s+":"+behind, api.ErrSyntax)
			failsInside(t, "/delete-node/ §&"+s+behind, api.ErrSyntax)
			failsAsValue(t, "§"+s+":"+behind, api.ErrSyntax)
			failsAsValue(t, "[§&"+s+behind, api.ErrSyntax)
			failsAtTop(t, "l: §&"+s+behind, api.ErrSyntax)
		}
	}
}

func TestNamesThatAreNone(t *testing.T) {
	for _, s := range []string{tooLong, strings.Repeat("n", 400), "a" + strings.Repeat("-", api.MaxName)} {
		failsInside(t, "§"+s+";", api.ErrInvalid)
		failsInside(t, "§"+s+" { };", api.ErrInvalid)
		failsInside(t, "/delete-property/ §"+s+";", api.ErrInvalid)
		failsInside(t, "/delete-node/ §"+s+";", api.ErrInvalid)
		failsAtTop(t, "§"+s+" { };", api.ErrSyntax)
		failsAtTop(t, "/delete-node/ §"+s+";", api.ErrSyntax)
	}
	for _, s := range []string{"#", "#a", "##", "#size-cells", "#a@1", "#" + tooLong} {
		failsInside(t, "§"+s+" { };", api.ErrInvalid)
		failsInside(t, "l: §"+s+" { };", api.ErrInvalid)
		failsInside(t, "/delete-node/ §"+s+";", api.ErrInvalid)
	}
	for _, s := range []string{"a@", "a@1", "_@b", "#@", "#a@1", "n" + tooLong[2:] + "@"} {
		failsInside(t, "§"+s+";", api.ErrInvalid)
		failsInside(t, "§"+s+" = <1>;", api.ErrInvalid)
		failsInside(t, "/delete-property/ §"+s+";", api.ErrInvalid)
	}
}

// TestNamesComeBeforeWhatFollows checks that a name that is none counts before a token behind it that cannot be there.
func TestNamesComeBeforeWhatFollows(t *testing.T) {
	for _, behind := range []string{"", " }", " a;", " 5;", " <1>;", " : b;", " = 5;", " = ;", " = <(1 / 0)>;", ", b;", " l: a { };"} {
		failsInside(t, "§a@1"+behind, api.ErrInvalid)
		failsInside(t, "§"+tooLong+behind, api.ErrInvalid)
		failsInside(t, "l: §#a"+behind, api.ErrInvalid)
		failsInside(t, "/delete-node/ §#a"+behind, api.ErrInvalid)
		failsInside(t, "/delete-property/ §a@1"+behind, api.ErrInvalid)
	}
	for _, behind := range []string{"", " }", " 5", " a { };", " /w/"} {
		failsInside(t, "§#a {"+behind, api.ErrInvalid)
		failsInside(t, "l: §#a {"+behind, api.ErrInvalid)
	}
	// With a label it is the name of a child, whatever follows.
	failsInside(t, "l: a@1 §;", api.ErrSyntax)
	failsInside(t, "l: a@1 §= <1>;", api.ErrSyntax)
	failsInside(t, "§"+tooLong+": #a;", api.ErrInvalid)
}

func TestBodiesThatAreTooDeep(t *testing.T) {
	for _, top := range []string{"/ {", "&r {", "l: / {"} {
		full := top + strings.Repeat(" n {", api.MaxDepth)
		for _, name := range []string{"n ", "l: n ", "n@1 "} {
			for _, behind := range []string{"", " }", " };", " n {", " 5", " & a@1;"} {
				fails(t, full+name+"§{"+behind, api.ErrLimit)
				fails(t, full+" n; "+name+"§{"+behind, api.ErrLimit)
				fails(t, full+" }; m { "+name+"§{"+behind, api.ErrLimit)
			}
		}
		// Other errors of the node come before its '{', and what is none has no limit.
		fails(t, full+"§#n {", api.ErrInvalid)
		fails(t, full+"§"+tooLong+": n {", api.ErrInvalid)
		fails(t, full+"l: n §;", api.ErrSyntax)
		fails(t, full+"l: §{", api.ErrSyntax)
		fails(t, full+"§{", api.ErrSyntax)
		fails(t, full+"n = §{", api.ErrSyntax)
		fails(t, full+"n = <1> §{", api.ErrSyntax)
		fails(t, full+"/delete-node/ n §{", api.ErrSyntax)
	}
	const many = 1400
	isError(t, "/ {"+strings.Repeat("n {", many), api.ErrLimit, at(1, 3+3*(api.MaxDepth+1)))
	isError(t, "/ {"+strings.Repeat("n {", many)+strings.Repeat("};", many+1), api.ErrLimit, at(1, 3+3*(api.MaxDepth+1)))
}

// TestErrorsOfTokensComeFirst checks that an error of a token, also of the last one, comes before all others.
func TestErrorsOfTokensComeFirst(t *testing.T) {
	for _, s := range []string{"", "a { };", "/ {", "/ { a@1;", "/ { p = <(1 / 0)>; p = [256];", "&" + tooLong + " { };", "/ {" + strings.Repeat(" n {", api.MaxDepth+1)} {
		s += "\n ;"
		fails(t, s+"§$", api.ErrCharacter)
		fails(t, s+"§/* a", api.ErrEnd)
		fails(t, s+"§\"a", api.ErrEnd)
		fails(t, s+"§\"\\q\"", api.ErrSyntax)
		fails(t, s+"§a-b: c { };", api.ErrSyntax)
		fails(t, s+"§08", api.ErrSyntax)
		fails(t, s+"§4294967296", api.ErrRange)
		isError(t, s+strings.Repeat(" ", api.MaxText+1-len(s)), api.ErrLimit, api.Position{})
		isError(t, s+"$"+strings.Repeat(" ", api.MaxText), api.ErrLimit, api.Position{})
	}
}

func TestLimitsOfTokens(t *testing.T) {
	// Each of these has four tokens, and the end is one more.
	const one = "/{};"
	full := strings.Repeat(one, (api.MaxTokens-1)/4)
	if l := read(t, full); len(l) != 2*len(full)/4 {
		t.Errorf("%d definitions", len(l))
	}
	fails(t, full+"/{}§", api.ErrSyntax)
	fails(t, full+"/{};§", api.ErrLimit)
	fails(t, full+"/{};§/{};", api.ErrLimit)
	fails(t, full+"a a a a §a", api.ErrLimit)
	long := "/ { };" + strings.Repeat(" ", api.MaxText-6)
	read(t, long)
	isError(t, long+" ", api.ErrLimit, api.Position{})
	isError(t, long[:api.MaxText-1]+"a", api.ErrSyntax, at(1, api.MaxText))
}

// TestTheFirstErrorIsMet puts each two errors one after the other.
func TestTheFirstErrorIsMet(t *testing.T) {
	errors := []struct {
		text string
		e    api.Errno
	}{{"§= 1;", api.ErrSyntax}, {"§a@1;", api.ErrInvalid}, {"p = [§256];", api.ErrRange}, {"p = <§(1 / 0)>;", api.ErrDivide}, {"p = <§(((((((((1)))))))))>;", api.ErrLimit}, {"n {" + strings.Repeat("n {", api.MaxDepth-1) + "n §{ };" + strings.Repeat("};", api.MaxDepth), api.ErrLimit}}
	for _, a := range errors {
		for _, b := range errors {
			fails(t, "/ {\n"+a.text+"\n"+strings.Replace(b.text, mark, "", 1)+"};", a.e)
		}
	}
}

func TestFilesOfErrors(t *testing.T) {
	for _, f := range []int{-1, 0, 7, 1 << 40} {
		for _, s := range []string{"a", "/ { $", "/ { p = [256]", "/ { p = <(1 / 0)>"} {
			if _, p, e := source.Read(s, f); e == api.OK || p.File != f {
				t.Errorf("%q: error %d in the file %d, not %d", s, e, p.File, f)
			}
		}
		if _, p, e := source.Read(strings.Repeat(" ", api.MaxText+1), f); e != api.ErrLimit || p != (api.Position{}) {
			t.Errorf("error %d at %v", e, p)
		}
	}
}
