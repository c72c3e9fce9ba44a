package source_test

import (
	"math/rand"
	"slices"
	"strconv"
	"strings"
	"testing"

	"bringup/api"
	"bringup/expression"
	"bringup/source"
	"bringup/token"
	"bringup/tree"
)

// steps is the chapter once more, as a table: for what is read now and the class of a token, what is read next. 'end' comes before a ';', after which 'top' or 'body' goes on.
var steps = map[string]map[string]string{
	"top":     {"label": "slash", "/": "open", "ref": "open", "/include/": "file", "/delete-node/": "remove"},
	"slash":   {"/": "open"},
	"open":    {"{": "body"},
	"body":    {"label": "child", "name": "named", "/delete-property/": "unset", "/delete-node/": "without", "}": "end"},
	"child":   {"name": "open"},
	"named":   {"{": "body", "=": "part", ";": "next"},
	"file":    {"string": "end"},
	"remove":  {"ref": "end"},
	"unset":   {"name": "end"},
	"without": {"name": "end"},
	"part":    {"<": "cells", "[": "bytes", "string": "behind", "ref": "behind"},
	"behind":  {",": "part", ";": "next"},
	"cells":   {"number": "cells", "(": "cells", "ref": "cells", ">": "behind"},
	"bytes":   {"number": "bytes", "]": "behind"},
	"end":     {";": "next"},
}

// class returns by what a token is told in the table.
func class(t api.Token) string {
	switch t.Kind {
	case api.TokenSign:
		return t.Text
	case api.TokenWord:
		return "/" + t.Text + "/"
	}
	return []string{"", "name", "number", "string", "", "label", "ref", "", "end of text"}[t.Kind]
}

// machine reads a document by the table; it knows of what is open only how many bodies there are.
type machine struct {
	l      []api.Token
	at     int
	state  string
	bodies int
	first  api.Position // of the definition that is being read
	label  string
	out    []api.Definition
}

func (m *machine) begin(kind int, name string) {
	m.out = append(m.out, api.Definition{Kind: kind, Label: m.label, Name: name, Position: m.first})
	m.label = ""
}

// fault returns the error of a token that is of a kind that may be here.
func (m *machine) fault() api.Errno {
	t := m.l[m.at]
	bad := false
	switch class(t) {
	case "{":
		if m.bodies > api.MaxDepth {
			return api.ErrLimit
		}
	case "label", "ref":
		bad = !token.Label(t.Text)
	case "name":
		child := m.state == "child" || m.state == "without" || m.state == "body" && class(m.l[m.at+1]) == "{"
		bad = child && !token.Name(t.Text) || !child && !tree.Property(t.Text)
	case "number", "(":
		if m.state == "bytes" && t.Value > 255 {
			return api.ErrRange
		}
		_, _, e := expression.Primary(m.l, m.at)
		return e
	}
	if bad {
		return api.ErrInvalid
	}
	return api.OK
}

// take adds what a token says to the definitions.
func (m *machine) take(t api.Token) {
	switch c := class(t); {
	case m.state == "top" || m.state == "body":
		m.first = t.Position
		switch {
		case c == "label":
			m.label = t.Text
		case c == "ref":
			m.begin(api.DefNode, "&"+t.Text)
		case c == "/":
			m.begin(api.DefNode, "/")
		case c == "}":
			m.begin(api.DefEnd, "")
			m.bodies--
		case c == "name":
			m.begin(api.DefProperty, t.Text)
		}
	case c == "{" && m.state == "named":
		m.out[len(m.out)-1].Kind = api.DefNode
		m.bodies++
	case c == "{":
		m.bodies++
	case m.state == "slash":
		m.begin(api.DefNode, "/")
	case m.state == "child":
		m.begin(api.DefNode, t.Text)
	case m.state == "file":
		m.begin(api.DefInclude, t.Text)
	case m.state == "remove":
		m.begin(api.DefRemove, "&"+t.Text)
	case m.state == "without":
		m.begin(api.DefRemove, t.Text)
	case m.state == "unset":
		m.begin(api.DefDelete, t.Text)
	default:
		m.value(t, c)
	}
}

// value adds what a token says to the parts of the last property.
func (m *machine) value(t api.Token, c string) {
	parts := &m.out[len(m.out)-1].Parts
	switch {
	case m.state == "part":
		kind := map[string]int{"<": api.PartCells, "[": api.PartBytes, "string": api.PartString, "ref": api.PartPath}[c]
		p := api.Part{Kind: kind}
		if c == "string" || c == "ref" {
			p.Text = t.Text
		}
		*parts = append(*parts, p)
	case m.state == "bytes" && c == "number":
		(*parts)[len(*parts)-1].Text += string([]byte{byte(t.Value)})
	case m.state == "cells" && c != ">":
		p := &(*parts)[len(*parts)-1]
		if c == "ref" {
			p.Cells = append(p.Cells, handle(t.Text))
			return
		}
		value, next, _ := expression.Primary(m.l, m.at)
		p.Cells = append(p.Cells, number(value))
		m.at = next - 1
	}
}

// expected returns what Read must return.
func expected(text string) ([]api.Definition, api.Position, api.Errno) {
	l, place, e := token.Read(text, file)
	if e != api.OK {
		return nil, place, e
	}
	m := machine{l: l, state: "top"}
	for ; m.state != "top" || class(l[m.at]) != "end of text"; m.at++ {
		t := l[m.at]
		next, ok := steps[m.state][class(t)]
		if m.state == "cells" && !ok {
			_, _, e := expression.Primary(l, m.at)
			return nil, t.Position, e
		}
		if !ok {
			return nil, t.Position, api.ErrSyntax
		}
		if e := m.fault(); e != api.OK {
			return nil, t.Position, e
		}
		m.take(t)
		m.state = next
		if next == "next" && m.bodies == 0 {
			m.state = "top"
		} else if next == "next" {
			m.state = "body"
		}
	}
	return m.out, api.Position{}, api.OK
}

// asExpected checks Read of a text, and what the chapter says about all results, and returns the error.
func asExpected(t *testing.T, text string) api.Errno {
	t.Helper()
	want, place, e := expected(text)
	got, gotPlace, gotE := source.Read(text, file)
	if gotE != e || gotPlace != place || !same(got, want) {
		t.Errorf("%.400q: %v, %v, %d, not %v, %v, %d", text, got, gotPlace, gotE, want, place, e)
	}
	if !source.Same(got, want) {
		t.Errorf("%.400q: %v and %v are not the same", text, got, want)
	}
	open := 0
	for i, d := range got {
		if i > 0 && !before(got[i-1].Position, d.Position) {
			t.Errorf("%.400q: the positions %v and %v do not ascend", text, got[i-1].Position, d.Position)
		}
		switch d.Kind {
		case api.DefNode:
			open++
		case api.DefEnd:
			open--
		}
		if open < 0 || open > api.MaxDepth+1 {
			t.Errorf("%.400q: %d nodes are open", text, open)
		}
	}
	if open != 0 {
		t.Errorf("%.400q: %d nodes are open at the end", text, open)
	}
	return gotE
}

func before(a, b api.Position) bool {
	return a.Line < b.Line || a.Line == b.Line && a.Column < b.Column
}

// TestAllShortTexts checks all texts of a few words, at the top, in a body, as a value, and in cells and bytes.
func TestAllShortTexts(t *testing.T) {
	words := strings.Fields("/ { } ; a a@1 #a l: &l = , < > [ ] ( ) 1 256 + \"s\" /include/ /delete-node/ /delete-property/ /w/")
	lists := []string{""}
	for range 3 {
		var longer []string
		for _, s := range lists {
			for _, w := range words {
				longer = append(longer, s+" "+w)
			}
		}
		for _, s := range longer {
			for _, begin := range []string{"", "/ {", "/ { l: a", "/ { p =", "/ { p = <", "/ { p = [", "/ { } ; & l"} {
				asExpected(t, begin+s)
			}
			asExpected(t, "/ { "+s+" ; } ;")
			asExpected(t, "/ { p = "+s+" ; } ;")
		}
		lists = longer
	}
}

// writer writes mixed documents, word by word.
type writer struct {
	*rand.Rand
	words []string
}

func (w *writer) add(words ...string) { w.words = append(w.words, words...) }

func (w *writer) one(of string) string {
	l := strings.Fields(of)
	return l[w.Intn(len(l))]
}

func (w *writer) document() {
	for range w.Intn(4) {
		switch w.Intn(6) {
		case 0:
			w.add("/include/", `"a b"`, ";")
			continue
		case 1:
			w.add("/delete-node/", w.one("&a &b_1"), ";")
			continue
		case 2:
			w.add(w.one("&a &b_1"))
		case 3:
			w.add("l:", "/")
		default:
			w.add("/")
		}
		w.body(w.Intn(5))
	}
}

func (w *writer) body(levels int) {
	w.add("{")
	for range w.Intn(5) {
		switch w.Intn(5) {
		case 0:
			w.add("/delete-node/", w.one("a b@1"), ";")
		case 1:
			w.add("/delete-property/", w.one("a #b"), ";")
		case 2:
			w.property()
		case 3:
			w.add("l" + strconv.Itoa(w.Intn(3)) + ":")
			fallthrough
		default:
			w.add(w.one("a b@1 c,d"))
			if levels > 0 {
				w.body(levels - 1)
			} else {
				w.add("{", "}", ";")
			}
		}
	}
	w.add("}", ";")
}

func (w *writer) property() {
	w.add(w.one("a #b c-d"))
	for i := range w.Intn(4) {
		w.add(map[bool]string{true: "=", false: ","}[i == 0])
		switch w.Intn(4) {
		case 0:
			w.add(w.one(`"" "s" "\n\x00"`))
		case 1:
			w.add("&a")
		case 2:
			w.add("[")
			for range w.Intn(4) {
				w.add(w.one("0 1 0xff 255"))
			}
			w.add("]")
		default:
			w.add("<")
			for range w.Intn(4) {
				w.add(w.one("0 1 4294967295 &a (1) (1+(2>1)) (0?1:2)"))
			}
			w.add(">")
		}
	}
	w.add(";")
}

// text puts separators of several kinds between words.
func (w *writer) text(words []string) string {
	var out strings.Builder
	for _, s := range words {
		out.WriteString(s + []string{" ", " ", " ", "\n", "\t", " /* c */", " // c\n"}[w.Intn(7)])
	}
	return out.String()
}

// spoilt returns words of which one is taken away, added or exchanged.
func (w *writer) spoilt(words []string) []string {
	at := w.Intn(len(words) + 1)
	behind := min(len(words), at+w.Intn(2))
	other := w.one("/ { } ; a a@1 #a l: &l = , < > [ ] ( ) 0 256 + \"s\" /include/ /delete-node/ /delete-property/ /w/ $ 08")
	return slices.Concat(words[:at], []string{other}[w.Intn(2):], words[behind:])
}

// exchanged returns words of which one is another one of its kind.
func (w *writer) exchanged(words []string) []string {
	out := slices.Clone(words)
	if len(out) == 0 {
		return out
	}
	at := w.Intn(len(out))
	switch s := out[at]; {
	case strings.Contains("0123456789(", s[:1]):
		out[at] = w.one("255 256 4294967295 (256) (1/0) (1%0) (5/(1-1)) (((((((((1))))))))) (1+)")
	case s[0] == '&':
		out[at] = "&" + strings.Repeat("n", api.MaxName+w.Intn(2))
	case s[len(s)-1] == ':':
		out[at] = strings.Repeat("n", api.MaxName+w.Intn(2)) + ":"
	case strings.Contains("#abc", s[:1]):
		out[at] = w.one("a a@1 #a #a@1 " + strings.Repeat("n", api.MaxName+w.Intn(2)))
	case s == "{":
		out[at] = "{" + strings.Repeat(" n {", w.Intn(api.MaxDepth+2))
	}
	return out
}

// TestMixedDocuments checks documents without errors, and then with other words.
func TestMixedDocuments(t *testing.T) {
	w := &writer{Rand: rand.New(rand.NewSource(1))}
	seen := map[api.Errno]int{}
	for range 6000 {
		w.words = nil
		w.document()
		if e := asExpected(t, w.text(w.words)); e != api.OK {
			t.Errorf("%.400q: error %d", w.words, e)
		}
		for range 4 {
			seen[asExpected(t, w.text(w.exchanged(w.words)))]++
			seen[asExpected(t, w.text(w.spoilt(w.words)))]++
			seen[asExpected(t, w.text(w.spoilt(w.exchanged(w.words))))]++
		}
	}
	for _, e := range []api.Errno{api.OK, api.ErrSyntax, api.ErrInvalid, api.ErrRange, api.ErrLimit, api.ErrDivide, api.ErrCharacter} {
		if seen[e] < 50 {
			t.Errorf("error %d occurs only %d times", e, seen[e])
		}
	}
}
