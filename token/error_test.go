package token_test

import (
	"strings"
	"testing"

	"bringup/api"
	"bringup/token"
)

// fails checks that a text has this error at this place, and no tokens.
func fails(t *testing.T, text string, want api.Errno, place api.Position) {
	t.Helper()
	l, p, e := token.Read(text, file)
	if e != want || p != place || len(l) != 0 {
		t.Errorf("%.40q: error %d at %v with %d tokens, not %d at %v", text, e, p, len(l), want, place)
	}
}

func TestCommentsThatDoNotEnd(t *testing.T) {
	for _, s := range []string{"/*", "/*/", "/* a", "/* *", "/* * /", "/*\n\n", "/* \"*\" /", "/* // \n"} {
		fails(t, s, api.ErrEnd, at(1, 1))
		fails(t, "a\n /**/"+s, api.ErrEnd, at(2, 6))
		fails(t, "a//\n b"+s, api.ErrEnd, at(2, 3))
	}
}

func TestLabelsThatAreNone(t *testing.T) {
	for _, s := range []string{"#", "#a", "a,", "a.b", "a+", "a-b", "a?", "a#", "a@1", "a" + strings.Repeat("-", 400)} {
		fails(t, s+":", api.ErrSyntax, at(1, 1))
		fails(t, "a b\n"+s+": c", api.ErrSyntax, at(2, 1))
	}
}

func TestNumbersThatAreNone(t *testing.T) {
	for _, s := range []string{"1a", "1_", "1f", "0a", "0_", "08", "09", "0778", "0x", "0xg", "0x_1", "0x1G", "0x0x1", "0X1", "1x1", "00x1", "0b1", "0o7", "1e3", "1_000", "99999999999999999999z", "4294967296_", "0xfffffffffffffffffg", "07777777777777777778"} {
		fails(t, s, api.ErrSyntax, at(1, 1))
		fails(t, "a\n\t"+s+" $", api.ErrSyntax, at(2, 2))
	}
}

func TestNumbersOutOfRange(t *testing.T) {
	for _, s := range []string{"4294967296", "040000000000", "0x100000000", "9999999999", "18446744073709551616", "18446744073709551617", "0x10000000000000000", "0x10000000000000001", "02000000000000000000001", strings.Repeat("9", 400), "0x" + strings.Repeat("f", 400)} {
		fails(t, s, api.ErrRange, at(1, 1))
		fails(t, "1\n "+s+" $", api.ErrRange, at(2, 2))
	}
}

func TestStringsThatDoNotEnd(t *testing.T) {
	for _, s := range []string{`"`, `"ab`, `"\`, `"\n`, `"\"`, `"\\`, `"\x`, `"\x4`, `"\x41`} {
		fails(t, s, api.ErrEnd, at(1, 1))
		fails(t, s+"\n\"", api.ErrEnd, at(1, 1))
		fails(t, s+"\n\"\\a\"", api.ErrEnd, at(1, 1))
		fails(t, "1 \"\"\n\n  "+s, api.ErrEnd, at(3, 3))
	}
	fails(t, `"a"b"`, api.ErrEnd, at(1, 5))
}

func TestEscapesThatAreNone(t *testing.T) {
	for c := range 256 {
		s := string([]byte{byte(c)})
		if !strings.Contains("nt\"\\x\n", s) {
			fails(t, `"`+"\\"+s+`"`, api.ErrSyntax, at(1, 1))
		}
		if !strings.Contains("0123456789abcdefABCDEF\n", s) {
			fails(t, `"\x`+s+`0"`, api.ErrSyntax, at(1, 1))
			fails(t, `"\x0`+s+`"`, api.ErrSyntax, at(1, 1))
			fails(t, `"\x`+s, api.ErrSyntax, at(1, 1))
			fails(t, `"\x0`+s, api.ErrSyntax, at(1, 1))
		}
	}
	// The first error in a string counts, and its place is that of the string.
	fails(t, "\"a\\a\n", api.ErrSyntax, at(1, 1))
	fails(t, "\n \"ab\\q", api.ErrSyntax, at(2, 2))
	fails(t, "\"\n\\q", api.ErrEnd, at(1, 1))
	fails(t, `"\n\r"`, api.ErrSyntax, at(1, 1))
}

func TestCharactersThatBeginNothing(t *testing.T) {
	begins := "abcdefghijklmnopqrstuvwxyzABCDEFGHIJKLMNOPQRSTUVWXYZ0123456789_# \t\r\n{}()<>[];=,+-*/%&|^~!?:"
	for c := range 256 {
		s := string([]byte{byte(c)})
		_, p, e := token.Read("1\n;"+s, file)
		switch {
		case s == `"`:
			fails(t, "1\n;"+s, api.ErrEnd, at(2, 2))
		case strings.Contains(begins, s):
			if e != api.OK {
				t.Errorf("%q: error %d at %v", s, e, p)
			}
		default:
			fails(t, "1\n;"+s, api.ErrCharacter, at(2, 2))
		}
	}
	for _, s := range []string{"$", "'", "`", "\\", "@", "@a", ".", ".5", "\x00", "\x0b", "\x0c", "\x7f", "\x80", "\xc3\xa9", "\xff"} {
		fails(t, s, api.ErrCharacter, at(1, 1))
	}
	fails(t, "1.5", api.ErrCharacter, at(1, 2))
	fails(t, "&@", api.ErrCharacter, at(1, 2))
	fails(t, "/@/", api.ErrCharacter, at(1, 2))
}

func TestTheFirstErrorIsMet(t *testing.T) {
	errors := []struct {
		text string
		e    api.Errno
	}{{"/*", api.ErrEnd}, {"#: ", api.ErrSyntax}, {"08 ", api.ErrSyntax}, {"4294967296 ", api.ErrRange}, {`"\a" `, api.ErrSyntax}, {"\"\n", api.ErrEnd}, {"$ ", api.ErrCharacter}}
	for _, a := range errors {
		for _, b := range errors {
			fails(t, " "+a.text+b.text, a.e, at(1, 2))
		}
	}
}

func TestTextLimit(t *testing.T) {
	most := strings.Repeat(" ", api.MaxText)
	reads(t, most)
	reads(t, most[1:]+"a", name("a"))
	reads(t, most[2:]+"\"\"", quoted(""))
	reads(t, strings.Repeat("a", api.MaxText), name(strings.Repeat("a", api.MaxText)))
	fails(t, most[1:]+"$", api.ErrCharacter, at(1, api.MaxText))
	for _, s := range []string{" ", "\n", "$", "a", "\""} {
		fails(t, most+s, api.ErrLimit, api.Position{})
		fails(t, strings.Repeat(s, api.MaxText+1), api.ErrLimit, api.Position{})
	}
	fails(t, "$"+most, api.ErrLimit, api.Position{})
	fails(t, "/*"+most, api.ErrLimit, api.Position{})
}

func TestTokenLimit(t *testing.T) {
	const most = api.MaxTokens
	full := strings.Repeat(";", most-1)
	for _, s := range []string{"", " ", "\n\n", "// $", "/* $ */"} {
		if l, _, e := token.Read(full+s, file); e != api.OK || len(l) != most {
			t.Errorf("%q: error %d, %d tokens", s, e, len(l))
		}
	}
	// What comes after so many tokens is one too many before it is looked at.
	for _, s := range []string{"", ";", "$", "08", "a-b:", "4294967296", "\"", "\"\\a\"", "/**/", "//"} {
		end := most + 1
		if strings.HasPrefix(s, "/") {
			end += len(s)
		}
		fails(t, full+";"+s, api.ErrLimit, at(1, end))
	}
	fails(t, full+";\n /* a */ b", api.ErrLimit, at(2, 10))
	fails(t, full+";\n /* a * / b", api.ErrEnd, at(2, 2))
	// The last token that is not one too many has its own error.
	fails(t, full+"$", api.ErrCharacter, at(1, most))
	fails(t, full+"08", api.ErrSyntax, at(1, most))
	fails(t, full+"\"", api.ErrEnd, at(1, most))
	fails(t, full+"4294967296", api.ErrRange, at(1, most))
	fails(t, "$"+full+";;", api.ErrCharacter, at(1, 1))
}
