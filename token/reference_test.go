package token_test

import (
	"math/big"
	"math/rand"
	"regexp"
	"slices"
	"strings"
	"testing"

	"bringup/api"
	"bringup/token"
)

// The forms of the chapter once more, as regular expressions, by which Read is checked on many texts.
var (
	separatorForm = regexp.MustCompile(`^(?:[ \t\r\n]|//[^\n]*|/\*(?s:.*?)\*/)+`)
	openForm      = regexp.MustCompile(`^/\*`)
	nameForm      = regexp.MustCompile(`^([A-Za-z_#][A-Za-z0-9_,.+?#@-]*)(:?)`)
	labelForm     = regexp.MustCompile(`^[A-Za-z0-9_]+$`)
	wordsForm     = regexp.MustCompile(`^[0-9][A-Za-z0-9_]*`)
	numberForm    = regexp.MustCompile(`^(?:0|[1-9][0-9]*|0[0-7]+|0x[0-9a-fA-F]+)$`)
	stringForm    = regexp.MustCompile(`^"(?:[^"\\\n]|\\[nt"\\]|\\x[0-9a-fA-F]{2})*`)
	brokenForm    = regexp.MustCompile(`^(?:\\(?:x[0-9a-fA-F]?)?)?(?:\n|$)`)
	escapeForm    = regexp.MustCompile(`\\(?:x..|.)`)
	refForm       = regexp.MustCompile(`^&([A-Za-z_][A-Za-z0-9_]*)`)
	slashForm     = regexp.MustCompile(`^/([a-z-]+)/`)
	signForm      = regexp.MustCompile(`^(?:<<|>>|<=|>=|==|!=|&&|\|\||[{}()<>\[\];=,+*/%&|^~!?:-])`)
)

// expected returns what Read must return.
func expected(text string) ([]api.Token, api.Position, api.Errno) {
	var out []api.Token
	for rest := text; ; {
		rest = rest[len(separatorForm.FindString(rest)):]
		before := text[:len(text)-len(rest)]
		place := at(1+strings.Count(before, "\n"), len(before)-strings.LastIndex(before, "\n"))
		x, n, e := api.Token{}, 0, api.OK
		switch {
		case openForm.MatchString(rest):
			e = api.ErrEnd
		case len(out) == api.MaxTokens:
			e = api.ErrLimit
		default:
			x, n, e = expectedToken(rest)
		}
		if e != api.OK {
			return nil, place, e
		}
		x.Position = place
		out = append(out, x)
		if x.Kind == api.TokenEnd {
			return out, api.Position{}, api.OK
		}
		rest = rest[n:]
	}
}

func expectedToken(rest string) (api.Token, int, api.Errno) {
	if rest == "" {
		return api.Token{Kind: api.TokenEnd}, 0, api.OK
	}
	if m := nameForm.FindStringSubmatch(rest); m != nil {
		if m[2] == "" {
			return name(m[1]), len(m[0]), api.OK
		}
		if !labelForm.MatchString(m[1]) {
			return api.Token{}, 0, api.ErrSyntax
		}
		return label(m[1]), len(m[0]), api.OK
	}
	if s := wordsForm.FindString(rest); s != "" {
		n, ok := new(big.Int).SetString(s, 0)
		if !numberForm.MatchString(s) || !ok {
			return api.Token{}, 0, api.ErrSyntax
		}
		if n.Cmp(big.NewInt(api.MaxCell)) > 0 {
			return api.Token{}, 0, api.ErrRange
		}
		return number(int(n.Int64())), len(s), api.OK
	}
	if s := stringForm.FindString(rest); s != "" {
		return expectedString(s, rest[len(s):])
	}
	if m := refForm.FindStringSubmatch(rest); m != nil {
		return ref(m[1]), len(m[0]), api.OK
	}
	if m := slashForm.FindStringSubmatch(rest); m != nil {
		return word(m[1]), len(m[0]), api.OK
	}
	if s := signForm.FindString(rest); s != "" {
		return sign(s), len(s), api.OK
	}
	return api.Token{}, 0, api.ErrCharacter
}

func expectedString(s, rest string) (api.Token, int, api.Errno) {
	if strings.HasPrefix(rest, `"`) {
		return quoted(escapeForm.ReplaceAllStringFunc(s[1:], unescaped)), len(s) + 1, api.OK
	}
	if brokenForm.MatchString(rest) {
		return api.Token{}, 0, api.ErrEnd
	}
	return api.Token{}, 0, api.ErrSyntax
}

func unescaped(s string) string {
	switch s[1] {
	case 'n':
		return "\n"
	case 't':
		return "\t"
	case 'x':
		n, _ := new(big.Int).SetString(s[2:], 16)
		return string([]byte{byte(n.Int64())})
	}
	return s[1:]
}

// asExpected checks Read of a text, and what the chapter says about all results.
func asExpected(t *testing.T, text string) {
	t.Helper()
	want, place, e := expected(text)
	got, gotPlace, gotE := token.Read(text, file)
	if gotE != e || gotPlace != place || !slices.Equal(got, want) {
		t.Errorf("%.80q: %v, %v, %d, not %v, %v, %d", text, got, gotPlace, gotE, want, place, e)
	}
	for i := 1; i < len(got); i++ {
		a, b := got[i-1].Position, got[i].Position
		if a.Line > b.Line || a.Line == b.Line && a.Column >= b.Column {
			t.Errorf("%.80q: the positions %v and %v do not ascend", text, a, b)
		}
	}
}

func TestAllShortTexts(t *testing.T) {
	const characters = "aZ_#019xf-@,+?:\"\\n&/*<>=!|;{$ \n\xff"
	texts := []string{""}
	for range 3 {
		var longer []string
		for _, s := range texts {
			asExpected(t, s)
			for i := range len(characters) {
				longer = append(longer, s+characters[i:i+1])
			}
		}
		texts = longer
	}
	for _, s := range texts {
		asExpected(t, s)
	}
}

func TestMixedTexts(t *testing.T) {
	pieces := strings.Split("a b1 #c d-e f@0 g: h-i: _ &a &_1 & && 0 1 07 08 0x1f 0x 4294967295 4294967296 /a/ /include/ /- / // /* */ * \" \"a\" \"\\n\" \"\\x4a\" \\ \\x \\x4 << < <= = == ! != | || > >> { } ( ) [ ] ; , + - % ^ ~ ? : $ @ . \x80", " ")
	pieces = append(pieces, " ", " ", " ", "\n", "\n", "\t", "\r", "// a\n", "/* b\n */")
	random := rand.New(rand.NewSource(1))
	for range 20000 {
		var text strings.Builder
		for range random.Intn(14) {
			text.WriteString(pieces[random.Intn(len(pieces))])
		}
		asExpected(t, text.String())
	}
}

func TestSeparatorsDoNotMatter(t *testing.T) {
	parts := []string{"a", "b:", "&c", "12", "0x1f", "\"s t\"", "/w/", "<<", "<", "{", "#d", "-", ";", "&", "/"}
	random := rand.New(rand.NewSource(2))
	separators := []string{" ", "\t", "\r", "\n", " // x\n", "/* x */", " /**/ \n"}
	for range 2000 {
		a, b := "", ""
		for range random.Intn(20) {
			p := parts[random.Intn(len(parts))]
			a += p + " "
			b += p + " " + separators[random.Intn(len(separators))]
		}
		l, _, e := token.Read(a, file)
		m, _, f := token.Read(b, file)
		same := slices.EqualFunc(l, m, func(x, y api.Token) bool { return shape(x) == shape(y) })
		if e != api.OK || f != api.OK || !same {
			t.Errorf("%q and %q: %v, %d and %v, %d", a, b, l, e, m, f)
		}
	}
}

func TestReadTwice(t *testing.T) {
	text := "a: b { c = <&d 0x10 (1 + 2)>, \"e\\n\"; };"
	l, _, _ := token.Read(text, file)
	for i := range l {
		l[i] = api.Token{}
	}
	asExpected(t, text)
}
