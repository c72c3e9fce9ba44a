package token_test

import (
	"slices"
	"strings"
	"testing"

	"bringup/api"
	"bringup/token"
)

const file = 5

func at(line, column int) api.Position {
	return api.Position{File: file, Line: line, Column: column}
}

// shape is a token without its position.
func shape(t api.Token) api.Token {
	t.Position = api.Position{}
	return t
}

func name(s string) api.Token   { return api.Token{Kind: api.TokenName, Text: s} }
func label(s string) api.Token  { return api.Token{Kind: api.TokenLabel, Text: s} }
func ref(s string) api.Token    { return api.Token{Kind: api.TokenRef, Text: s} }
func word(s string) api.Token   { return api.Token{Kind: api.TokenWord, Text: s} }
func sign(s string) api.Token   { return api.Token{Kind: api.TokenSign, Text: s} }
func quoted(s string) api.Token { return api.Token{Kind: api.TokenString, Text: s} }
func number(n int) api.Token    { return api.Token{Kind: api.TokenNumber, Value: n} }

// reads checks that a text has these tokens, and one more for its end.
func reads(t *testing.T, text string, want ...api.Token) {
	t.Helper()
	got, p, e := token.Read(text, file)
	if e != api.OK || p != (api.Position{}) {
		t.Errorf("%.40q: error %d at %v", text, e, p)
		return
	}
	want = append(want, api.Token{Kind: api.TokenEnd})
	if len(got) != len(want) {
		t.Errorf("%.40q: %d tokens, not %d: %v", text, len(got), len(want), got)
		return
	}
	for i := range got {
		if shape(got[i]) != want[i] {
			t.Errorf("%.40q: token %d is %v, not %v", text, i, got[i], want[i])
		}
	}
}

// places checks the positions of the tokens of a text.
func places(t *testing.T, text string, want ...api.Position) {
	t.Helper()
	l, _, e := token.Read(text, file)
	var got []api.Position
	for _, x := range l {
		got = append(got, x.Position)
	}
	if e != api.OK || !slices.Equal(got, want) {
		t.Errorf("%.40q: error %d, positions %v, not %v", text, e, got, want)
	}
}

func TestExampleOfTheChapter(t *testing.T) {
	text := "a: b@1 { x = <&a 0x10>; };"
	reads(t, text, label("a"), name("b@1"), sign("{"), name("x"), sign("="), sign("<"), ref("a"), number(16), sign(">"), sign(";"), sign("}"), sign(";"))
	places(t, text, at(1, 1), at(1, 4), at(1, 8), at(1, 10), at(1, 12), at(1, 14), at(1, 15), at(1, 18), at(1, 22), at(1, 23), at(1, 25), at(1, 26), at(1, 27))
}

func TestEmptyTexts(t *testing.T) {
	for _, text := range []string{"", " ", "\t", "\r", "\n", " \t\r\n", "//", "// a", "/**/", "/* a */", "//\n//\n"} {
		reads(t, text)
	}
}

func TestSeparators(t *testing.T) {
	for _, s := range []string{" ", "\t", "\r", "\n", "\r\n", "//\n", "// b /* c\n", "/**/", "/***/", "/*/*/", "/* b\n// c */", "/* \" $ \x00\xff */", " /* */ // \n\t"} {
		reads(t, "a"+s+"1", name("a"), number(1))
	}
	// The first '*/' ends a comment, and a line feed the one of a line.
	reads(t, "/* a */ b */", name("b"), sign("*"), sign("/"))
	reads(t, "// a \\\nb", name("b"))
	reads(t, "// a \rb")
	reads(t, "a//b", name("a"))
}

func TestNamesAndLabels(t *testing.T) {
	for _, s := range []string{"a", "z", "A", "Z", "_", "#", "##", "#1", "a0", "a9", "a,", "a.", "a+", "a-", "a?", "a#", "a@", "a_Z", "_a", "#address-cells", "cpu@1f,0", "x++", "a--b", strings.Repeat("n", 400)} {
		reads(t, s, name(s))
		reads(t, s+" :", name(s), sign(":"))
		reads(t, s+"/**/:", name(s), sign(":"))
	}
	for _, s := range []string{"a", "Z", "_", "a0", "_9_z", strings.Repeat("n", 400)} {
		reads(t, s+":", label(s))
		reads(t, s+"::", label(s), sign(":"))
		reads(t, s+":"+s+":"+s, label(s), label(s), name(s))
	}
}

func TestNumbers(t *testing.T) {
	zeros := strings.Repeat("0", 40)
	for s, want := range map[string]int{
		"0": 0, "1": 1, "9": 9, "10": 10, "987654321": 987654321, "4294967294": 4294967294, "4294967295": api.MaxCell,
		"00": 0, "01": 1, "07": 7, "010": 8, "0777": 511, "037777777777": api.MaxCell, zeros: 0, zeros + "12": 10,
		"0x0": 0, "0x9": 9, "0xa": 10, "0xf": 15, "0xA": 10, "0xF": 15, "0x1234567": 0x1234567, "0x89abcdef": 0x89abcdef, "0x89ABCDEF": 0x89abcdef, "0xffffffff": api.MaxCell, "0x" + zeros + "12": 18,
	} {
		reads(t, s, number(want))
		reads(t, s+"-"+s, number(want), sign("-"), number(want))
		reads(t, s+";", number(want), sign(";"))
		reads(t, "-"+s, sign("-"), number(want))
	}
	reads(t, "1-a", number(1), sign("-"), name("a"))
	reads(t, "1,2", number(1), sign(","), number(2))
	reads(t, "1:", number(1), sign(":"))
	reads(t, "1#a", number(1), name("#a"))
}

func TestStrings(t *testing.T) {
	for s, want := range map[string]string{
		`""`:                           "",
		`" a b "`:                      " a b ",
		`"\n\t\"\\"`:                   "\n\t\"\\",
		`"\\n"`:                        `\n`,
		`"\x00\x09\x0a\xaf\xFA\xBe"`:   "\x00\x09\x0a\xaf\xfa\xbe",
		`"\x411"`:                      "A1",
		`"// /* */ & / ' : $"`:         "// /* */ & / ' : $",
		"\"\x00\x01\t\r\x7f\x80\xff\"": "\x00\x01\t\r\x7f\x80\xff",
		"\"\u00e9\"":                   "\xc3\xa9",
	} {
		reads(t, s, quoted(want))
		reads(t, s+s+"a", quoted(want), quoted(want), name("a"))
	}
	for c := range 256 {
		s := string([]byte{byte(c)})
		if !strings.Contains("\"\\\n", s) {
			reads(t, `"`+s+`"`, quoted(s))
		}
		hex := string("0123456789abcdef"[c/16]) + string("0123456789ABCDEF"[c%16])
		reads(t, `"\x`+hex+`"`, quoted(s))
	}
}

func TestReferences(t *testing.T) {
	for _, s := range []string{"a", "z", "A", "Z", "_", "a0", "_9", "a_b", strings.Repeat("n", 400)} {
		reads(t, "&"+s, ref(s))
		reads(t, "&"+s+"&"+s, ref(s), ref(s))
		reads(t, "&"+s+":", ref(s), sign(":"))
		reads(t, "&"+s+"-1", ref(s), sign("-"), number(1))
		reads(t, "&"+s+"#", ref(s), name("#"))
		reads(t, "& "+s, sign("&"), name(s))
		reads(t, "&&"+s, sign("&&"), name(s))
		reads(t, "&&&"+s, sign("&&"), ref(s))
	}
	reads(t, "&1", sign("&"), number(1))
	reads(t, "&#a", sign("&"), name("#a"))
	reads(t, "&", sign("&"))
}

func TestWords(t *testing.T) {
	for _, s := range []string{"a", "z", "-", "--", "include", "delete-node", "-a-"} {
		reads(t, "/"+s+"/", word(s))
		reads(t, "/"+s+"//"+s+"/", word(s), word(s))
		reads(t, "/"+s+"/*", word(s), sign("*"))
	}
	reads(t, "/a//b", word("a"), sign("/"), name("b"))
	reads(t, "/ a/", sign("/"), name("a"), sign("/"))
	reads(t, "/a /", sign("/"), name("a"), sign("/"))
	reads(t, "/a", sign("/"), name("a"))
	reads(t, "/", sign("/"))
	for _, s := range []string{"A", "aB", "a1", "a_", "a,b", "#"} {
		reads(t, "/"+s+"/", sign("/"), name(s), sign("/"))
	}
	reads(t, "/1/", sign("/"), number(1), sign("/"))
}

func TestSigns(t *testing.T) {
	two := []string{"<<", ">>", "<=", ">=", "==", "!=", "&&", "||"}
	for _, s := range two {
		reads(t, s, sign(s))
		reads(t, s+s, sign(s), sign(s))
		reads(t, s[:1]+" "+s[1:], sign(s[:1]), sign(s[1:]))
	}
	for _, s := range strings.Split("{}()<>[];=,+-*/%&|^~!?:", "") {
		reads(t, s, sign(s))
		reads(t, s+" "+s, sign(s), sign(s))
		reads(t, s+"1", sign(s), number(1))
	}
	reads(t, "<<<", sign("<<"), sign("<"))
	reads(t, "<<=", sign("<<"), sign("="))
	reads(t, "=>=", sign("="), sign(">="))
	reads(t, "!==", sign("!="), sign("="))
	reads(t, "+=-=++--", sign("+"), sign("="), sign("-"), sign("="), sign("+"), sign("+"), sign("-"), sign("-"))
	reads(t, "~=^=%%**", sign("~"), sign("="), sign("^"), sign("="), sign("%"), sign("%"), sign("*"), sign("*"))
	reads(t, "-a+b", sign("-"), name("a+b"))
	reads(t, "?a:b", sign("?"), label("a"), name("b"))
}

func TestPositions(t *testing.T) {
	places(t, "", at(1, 1))
	places(t, "\n", at(2, 1))
	places(t, "  \n ", at(2, 2))
	places(t, "a\n\tb\r\n\rc", at(1, 1), at(2, 2), at(3, 2), at(3, 3))
	places(t, "/*\n\n*/a//\n b", at(3, 3), at(4, 2), at(4, 3))
	places(t, "l:m &r /w/ << 12 \"\\n\\x00\" ;", at(1, 1), at(1, 3), at(1, 5), at(1, 8), at(1, 12), at(1, 15), at(1, 18), at(1, 27), at(1, 28))
	places(t, "\"\u00e9\"a/*\u00e9*/b", at(1, 1), at(1, 5), at(1, 12), at(1, 13))
	for _, f := range []int{-1, 0, 7, 1 << 40} {
		l, _, _ := token.Read("a", f)
		for _, x := range l {
			if x.Position.File != f {
				t.Errorf("file %d, not %d", x.Position.File, f)
			}
		}
		if _, p, _ := token.Read("$", f); p.File != f {
			t.Errorf("file of an error: %d, not %d", p.File, f)
		}
	}
}
