package schema_test

import (
	"strings"
	"testing"

	"bringup/api"
	"bringup/schema"
)

// writes checks the text of schemas, and that it gives them again.
func writes(t *testing.T, l []api.Schema, want string) {
	t.Helper()
	before := clone(l)
	s, e := schema.Format(l)
	if s != want || e != api.OK {
		t.Errorf("%.300v: %.2000q, error %d, not %.2000q", l, s, e, want)
	}
	if !equal(l, before) {
		t.Errorf("%.300v was changed", before)
	}
	if len(want) <= api.MaxText {
		reads(t, want, l)
	} else {
		isError(t, want, api.ErrLimit, 0)
	}
}

// reads checks the schemas of a text, and that they give it again.
func reads(t *testing.T, text string, want []api.Schema) {
	t.Helper()
	l, line, e := schema.Parse(text)
	if !equal(l, want) || line != 0 || e != api.OK {
		t.Fatalf("%.2000q: %.300v, line %d, error %d, not %.300v", text, l, line, e, want)
	}
	if s, e := schema.Format(l); s != text || e != api.OK {
		t.Errorf("%.2000q: %.2000q, error %d", text, s, e)
	}
}

// isError checks the error of a text, and that it gives no schemas.
func isError(t *testing.T, text string, want api.Errno, line int) {
	t.Helper()
	l, at, e := schema.Parse(text)
	if len(l) > 0 || at != line || e != want {
		t.Errorf("%.2000q: %d schemas, error %d in line %d, not %d in %d", text, len(l), e, at, want, line)
	}
}

func TestTexts(t *testing.T) {
	writes(t, nil, "")
	writes(t, []api.Schema{}, "")
	writes(t, example(), "schema fixed-clock closed\n\tclock-frequency required cells 1..4000000000 x1\n")
	writes(t, ordinary(), "schema a,bus\n"+
		"schema b closed\n\t#p required empty\n\tany any\n\tq cells 0..4294967295\n\tstatus word okay disabled\n"+
		"schema c\n\tclocks required handle x2\n\tnames text x64\n\tphy required handle\n\ttext text\n"+
		"schema d closed\n")
	writes(t, list(closed("!"), made("~")), "schema ! closed\nschema ~\n")
}

// TestRuleTexts checks the line of a rule of each kind, with each part that it can have.
func TestRuleTexts(t *testing.T) {
	for _, c := range []struct {
		r    api.Rule
		want string
	}{
		{rule("p", api.RuleAny), "any"},
		{rule("p", api.RuleEmpty), "empty"},
		{cells("p", 0, 0, 0), "cells 0..0"},
		{cells("p", 0, 1, 0), "cells 0..1"},
		{cells("p", 7, 7, 1), "cells 7..7 x1"},
		{cells("p", 9, 10, 9), "cells 9..10 x9"},
		{cells("p", 100, 4294967294, 10), "cells 100..4294967294 x10"},
		{cells("p", 0, 4294967295, 64), "cells 0..4294967295 x64"},
		{cells("p", 4294967295, 4294967295, 63), "cells 4294967295..4294967295 x63"},
		{rule("p", api.RuleWord, "w"), "word w"},
		{rule("p", api.RuleWord, "w", "v", "w"), "word w v w"},
		{rule("p", api.RuleWord, "x1"), "word x1"},
		{rule("p", api.RuleWord, "x1", "x0", "1..2", "..", "required", "word", "\"", "\\n", "//", "#"), "word x1 x0 1..2 .. required word \" \\n // #"},
		{rule("p", api.RuleWord, numbered("w", api.MaxWords)...), "word " + strings.Join(numbered("w", api.MaxWords), " ")},
		{rule("p", api.RuleWord, strings.Repeat("~", api.MaxName), "!"), "word " + strings.Repeat("~", api.MaxName) + " !"},
		{rule("p", api.RuleText), "text"},
		{counted("p", api.RuleText, 1), "text x1"},
		{counted("p", api.RuleText, 64), "text x64"},
		{rule("p", api.RuleHandle), "handle"},
		{counted("p", api.RuleHandle, 2), "handle x2"},
		{counted("p", api.RuleHandle, 60), "handle x60"},
	} {
		for _, name := range []string{"p", "required", "any", "word", "x1", "#address-cells", "a,.+-?#_0", strings.Repeat("n", api.MaxName)} {
			c.r.Name = name
			writes(t, list(made("a", c.r)), "schema a\n\t"+name+" "+c.want+"\n")
			writes(t, list(closed("a", required(c.r)), made("b")), "schema a closed\n\t"+name+" required "+c.want+"\nschema b\n")
			writes(t, list(made("a", rule("#", api.RuleEmpty), c.r, rule("zz", api.RuleAny))), "schema a\n\t# empty\n\t"+name+" "+c.want+"\n\tzz any\n")
		}
	}
}

// TestSchemaTexts checks the lines with which schemas begin.
func TestSchemaTexts(t *testing.T) {
	words(func(s string, ok bool) {
		if !ok {
			return
		}
		writes(t, list(made(s)), "schema "+s+"\n")
		writes(t, list(closed(s, rule("p", api.RuleAny))), "schema "+s+" closed\n\tp any\n")
		writes(t, list(made("a", rule("p", api.RuleWord, s))), "schema a\n\tp word "+s+"\n")
		writes(t, list(made("a", rule("p", api.RuleWord, "w", s, "v"))), "schema a\n\tp word w "+s+" v\n")
	})
	for _, s := range []string{"schema", "closed", "required", "any", "x1"} {
		writes(t, list(made(s)), "schema "+s+"\n")
		writes(t, list(closed(s)), "schema "+s+" closed\n")
	}
}

func TestFullTexts(t *testing.T) {
	lines := "\tr" + strings.Join(numbered("", api.MaxRules), " any\n\tr") + " any\n"
	writes(t, list(ruled("a", api.MaxRules)), "schema a\n"+lines)
	l, want := many(api.MaxSchemas), ""
	for i := range l {
		l[i] = ruled(l[i].Compatible, api.MaxRules)
		want += "schema " + l[i].Compatible + "\n" + lines
	}
	writes(t, l, want)
	writes(t, many(api.MaxSchemas), "schema s"+strings.Join(numbered("", api.MaxSchemas), "\nschema s")+"\n")
}

// ofBytes returns valid schemas whose text has so many bytes, as far as they have room, and the text.
func ofBytes(n int) ([]api.Schema, string) {
	l := many(api.MaxSchemas)
	base := len(l) * (len("schema s1000\n") + api.MaxRules*len("\tr1000 word w\n"))
	more, text := n-base, ""
	for i := range l {
		l[i] = ruled(l[i].Compatible, api.MaxRules)
		text += "schema " + l[i].Compatible + "\n"
		for k, r := range l[i].Rules {
			w := strings.Repeat("w", 1+min(more, api.MaxName-1))
			more -= len(w) - 1
			l[i].Rules[k] = rule(r.Name, api.RuleWord, w)
			text += "\t" + r.Name + " word " + w + "\n"
		}
	}
	return l, text
}

func TestBytesOfTexts(t *testing.T) {
	for _, n := range []int{10000, api.MaxText - 1, api.MaxText, api.MaxText + 1, api.MaxText + 2, api.MaxText + 1000} {
		l, text := ofBytes(n)
		if len(text) != n {
			t.Fatalf("%d bytes, not %d", len(text), n)
		}
		writes(t, l, text)
	}
	// The text has no limit: the longest one has all words.
	l, want := many(api.MaxSchemas), ""
	all := strings.Repeat(" "+strings.Repeat("w", api.MaxName), api.MaxWords)
	for i := range l {
		l[i] = ruled(l[i].Compatible, api.MaxRules)
		want += "schema " + l[i].Compatible + "\n"
		for k, r := range l[i].Rules {
			l[i].Rules[k] = required(rule(r.Name, api.RuleWord, strings.Fields(all)...))
			want += "\t" + r.Name + " required word" + all + "\n"
		}
	}
	writes(t, l, want)
}

// TestFormatErrors checks that what is not valid has the error of Check, and no text.
func TestFormatErrors(t *testing.T) {
	for _, l := range [][]api.Schema{many(api.MaxSchemas + 1), list(ruled("a", api.MaxRules+1)), list(made("")), list(made("a", rule("p", 0))), list(made("a b")),
		list(made("a", rule("p", api.RuleWord))), list(made("a", cells("p", 2, 1, 0))), list(made("a", rule("p", 7))), list(made("a", rule("p", -1))), list(made("a", counted("p", api.RuleAny, 1))), list(made("b"), made("a")), list(made("a"), closed("a")),
		list(made("a", rule("q", api.RuleAny), rule("p", api.RuleAny))), append(many(api.MaxSchemas), made("")), list(made("b", rule("", 0)), made("a"))} {
		before := clone(l)
		want := schema.Check(l)
		s, e := schema.Format(l)
		if want == api.OK || e != want || s != "" {
			t.Errorf("%.300v: %.300q, error %d, not %d", l, s, e, want)
		}
		if !equal(l, before) {
			t.Errorf("%.300v was changed", before)
		}
	}
}
