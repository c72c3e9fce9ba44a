package schema_test

import (
	"strings"
	"testing"

	"bringup/api"
	"bringup/schema"
)

// behind are texts that may follow a line with an error: it stays the first one.
var behind = []string{"", "\n", "\tzz any\n", "schema z\n", "\tp", "schema a\n\tb\n", "schema \xff\n", "\n\n\n"}

// failsIn checks the error of a line behind each of several beginnings.
func failsIn(t *testing.T, begins []string, line string, want api.Errno) {
	t.Helper()
	for _, begin := range begins {
		at := strings.Count(begin, "\n") + 1
		for _, s := range behind {
			isError(t, begin+line+"\n"+s, want, at)
		}
	}
}

// full is the text of so many schemas as there may be, of which the last one has as many rules.
func full() string {
	return "schema s" + strings.Join(numbered("", api.MaxSchemas), "\nschema s") + "\n" + lines(api.MaxRules)
}

// lines are those of so many rules.
func lines(n int) string {
	return "\tr" + strings.Join(numbered("", n), " any\n\tr") + " any\n"
}

// begins are texts in front of a line: in some it would be too late, or one too many.
func begins() []string {
	return []string{"", "schema a\n", "schema A closed\n", "schema z\n", "schema a\n\tA any\n", "schema a closed\n\tz required word w\n", "schema A\n\tz any\nschema a\n",
		"schema a\n" + lines(api.MaxRules), full()}
}

func TestNoSchemaLines(t *testing.T) {
	for _, s := range []string{"", " ", "  ", "a", "x", "0", "\r", "\v", "\x00", "\xff", "p any", "any", "closed", "required", "b", "\t", " \t", "// schema b",
		"schema", "schema ", "schema  ", "schema  b", " schema b", "  schema b", "schemab", "schema-b", "schemas b", "schem b", "Schema b", "SCHEMA b", "b schema", "closed schema b",
		"schema\tb", "schema \tb", "schema\x00b", "schema b ", "schema b  ", "schema b\t", "schema b\r", "schema b\x00", "schema é", "schema b c", "schema b // c",
		"schema b  closed", "schema b closed ", "schema b\tclosed", "schema b closed\r", "schema b Closed", "schema b close", "schema b closeds", "schema b open", "schema b required",
		"schema b closed closed", "schema b c closed", "schema closed b", "schema  closed", "schema   closed"} {
		failsIn(t, begins(), s, api.ErrSyntax)
	}
}

func TestNoRuleLines(t *testing.T) {
	for _, s := range []string{"\t", "\t ", "\t\t", "\tp", "\tp ", "\tp  ", "\tany", "\trequired", "\trequired any required", "\t any", "\t required any", " p any", "p any", " \tp any", "\t\tp any", "\t p any", "\tp\tany", "\tp \tany", "\tp any\r", "\tp any\t", "\tp any\x00",
		"\tp  any", "\tp any ", "\tp any  ", "\tp required", "\tp required ", "\tp required  any", "\tp  required any", "\tp required any ", "\tp required required any", "\tp required required", "\tp any required", "\tany required p", "\tany p",
		"\tp Any", "\tp ANY", "\tp anything", "\tp an", "\tp none", "\tp Required any", "\tp optional any", "\tp closed any", "\tp 1", "\tp x1", "\tp 0..1", "\tp string", "\tp phandle", "\tp word,", "\tp schema b",
		"\tp any any", "\tp any empty", "\tp empty any", "\tp cells any", "\tp text handle", "\tp any w", "\tp empty w", "\tp text w", "\tp handle w"} {
		failsIn(t, begins(), s, api.ErrSyntax)
	}
	for _, kind := range []string{"any", "empty", "cells 1..2", "word w", "text", "handle"} {
		for _, name := range []string{"", " ", "p@1", "@", "1p", "0", "-p", ".p", "+", "?", "p:", "p;", "p=", "é", "pé", "p\x00", "\"p\"", "p/q", "p*", strings.Repeat("n", api.MaxName+1), strings.Repeat("n", 1000), "p q"} {
			failsIn(t, begins()[1:5], "\t"+name+" "+kind, api.ErrSyntax)
			failsIn(t, begins()[1:5], "\t"+name+" required "+kind, api.ErrSyntax)
		}
	}
}

// notCounts are no words for a count.
var notCounts = []string{"x0", "x00", "x01", "x064", "x65", "x66", "x100", "x1000000", "x18446744073709551617", "x99999999999999999999999", "x-1", "x+1", "x-0", "x", "xx", "xx1", "x1x", "x 1", "x1.", "x1..2", "x1 ", " x1", "X1", "1", "0", "64", "1x", "y1", "*1", "x0x1", "x1_0", "x1e1", "x1 x1", "x1 x2", "x1 w", "x１", "x1\r", "0..1", "..", "required"}

func TestNoCounts(t *testing.T) {
	for _, kind := range []string{"cells 1..2", "text", "handle"} {
		for _, s := range notCounts {
			failsIn(t, begins()[1:4], "\tp "+kind+" "+s, api.ErrSyntax)
			failsIn(t, begins()[1:4], "\tp required "+kind+" "+s, api.ErrSyntax)
		}
		failsIn(t, begins(), "\tp "+kind+"x1", api.ErrSyntax)
		failsIn(t, begins(), "\tp "+kind+"  x1", api.ErrSyntax)
		failsIn(t, begins(), "\tp "+kind+"\tx1", api.ErrSyntax)
		failsIn(t, begins(), "\tp x1 "+kind, api.ErrSyntax)
	}
	for _, kind := range []string{"any", "empty"} {
		for _, s := range append(notCounts, "x1", "x64") {
			failsIn(t, begins()[1:4], "\tp "+kind+" "+s, api.ErrSyntax)
		}
	}
}

func TestNoRanges(t *testing.T) {
	for _, s := range []string{"", " ", "1", "0", "x1", "1 x1", "..", "1..", "..1", "1.", ".1", "1.2", "1...2", "1....2", "1..2..3", "1..2.", ".1..2", "1-2", "1:2", "1,2", "1...", " 1..2", "1 ..2", "1.. 2", "1 .. 2", "1..2 ", "1..2  x1", "1..2,x1",
		"2..1", "1..0", "4294967295..0", "10..9", "100..20", "+1..2", "1..+2", "-1..2", "-2..-1", "1..-2", "-0..1", "0..-0", "01..2", "1..02", "00..1", "0..00", "00..00", "000..1", "0..01", "0..010",
		"0x1..0x2", "0x1..2", "0b1..1", "0o7..8", "1_0..20", "1..2_0", "1e0..1e1", "1,000..2,000", "1u..2", "a..b", "1..a", "a..1", "１..２", "1..2\r", "1..２",
		"1..4294967296", "0..4294967296", "4294967296..4294967296", "4294967296..4294967297", "0..10000000000", "0..9223372036854775807", "0..9223372036854775808", "0..18446744073709551615", "0..18446744073709551617", "0..99999999999999999999999", "18446744073709551617..18446744073709551618", "-18446744073709551615..1"} {
		for _, required := range []string{"", "required "} {
			failsIn(t, begins()[1:5], "\tp "+required+"cells "+s, api.ErrSyntax)
			failsIn(t, begins()[1:5], "\tp "+required+"cells "+s+" x1", api.ErrSyntax)
		}
	}
	failsIn(t, begins(), "\tp cells", api.ErrSyntax)
	failsIn(t, begins(), "\tp cells1..2", api.ErrSyntax)
	failsIn(t, begins(), "\tp 1..2 cells", api.ErrSyntax)
	failsIn(t, begins(), "\tp cells x1 1..2", api.ErrSyntax)
	for _, kind := range []string{"any", "empty", "text", "handle"} {
		for _, s := range []string{"0..0", "1..2", "1..2 x1"} {
			failsIn(t, begins(), "\tp "+kind+" "+s, api.ErrSyntax)
		}
	}
}

func TestNoWords(t *testing.T) {
	failsIn(t, begins(), "\tp word", api.ErrSyntax)
	for _, s := range []string{"", " ", "  ", " w", "w ", "w  v", " w v", "w v ", "w\tv", "\tw", "w\t", "w\r", "é", "w\x00", "w \x00", "\xff w",
		strings.Repeat("w ", api.MaxWords) + "w", strings.Repeat("w ", api.MaxWords+1) + "w", strings.Repeat("w ", 1000) + "w", strings.Repeat("w ", api.MaxWords)} {
		failsIn(t, begins(), "\tp word "+s, api.ErrSyntax)
		failsIn(t, begins(), "\tp required word "+s, api.ErrSyntax)
	}
	words(func(s string, ok bool) {
		if ok || strings.ContainsAny(s, " \n") {
			return
		}
		failsIn(t, begins()[1:3], "schema "+s, api.ErrSyntax)
		failsIn(t, begins()[1:3], "schema "+s+" closed", api.ErrSyntax)
		failsIn(t, begins()[1:3], "\tp word "+s, api.ErrSyntax)
		failsIn(t, begins()[1:3], "\tp word w "+s+" v", api.ErrSyntax)
	})
}

// TestRuleFirst checks rules before all schemas.
func TestRuleFirst(t *testing.T) {
	for _, s := range []string{"\tp any\n", "\tp required cells 1..2 x1\n", "\tp word w\n", "\tp\n", "\t\n"} {
		for _, rest := range behind {
			isError(t, s+rest, api.ErrSyntax, 1)
			isError(t, s+"schema a\n"+rest, api.ErrSyntax, 1)
		}
	}
	reads(t, "schema a\n\tp any\n", list(made("a", rule("p", api.RuleAny))))
}

// TestNoLineFeed checks texts whose last line does not end.
func TestNoLineFeed(t *testing.T) {
	for _, begin := range begins() {
		at := strings.Count(begin, "\n") + 1
		for _, s := range []string{"schema zz", "schema zz closed", "schema A", "\tzz any", "\tA any", "\tp", "\t", "s", " ", "\r", "\x00", "bad"} {
			isError(t, begin+s, api.ErrSyntax, at)
		}
	}
	s, _ := schema.Format(ordinary())
	for i := range len(s) {
		if i == 0 || s[i-1] == '\n' {
			reads(t, s[:i], prefix(ordinary(), strings.Count(s[:i], "\n")))
		} else {
			isError(t, s[:i], api.ErrSyntax, strings.Count(s[:i], "\n")+1)
		}
	}
}

// prefix returns what the first lines of the text of schemas are.
func prefix(l []api.Schema, lines int) []api.Schema {
	var out []api.Schema
	for _, s := range l {
		if lines == 0 {
			break
		}
		n := min(lines-1, len(s.Rules))
		lines -= n + 1
		s.Rules = s.Rules[:n]
		out = append(out, s)
	}
	return out
}

func TestOrderOfLines(t *testing.T) {
	for _, c := range []struct{ begin, line string }{
		{"schema b\n", "schema b"}, {"schema b\n", "schema b closed"}, {"schema b closed\n", "schema b"}, {"schema b\n", "schema a"}, {"schema b\n", "schema B"}, {"schema bb\n", "schema b"}, {"schema b\n", "schema !"},
		{"schema b\n\tp any\n", "schema b"}, {"schema b\n\tp any\n\tq any\n", "schema a closed"}, {"schema a\nschema c\n", "schema b"}, {"schema a\nschema c\n", "schema a"}, {"schema b9\n", "schema b10"},
		{"schema a\n\tq any\n", "\tq any"}, {"schema a\n\tq any\n", "\tq required cells 1..2"}, {"schema a\n\tq any\n", "\tp any"}, {"schema a\n\tq any\n", "\tQ any"}, {"schema a\n\tq any\n", "\t#q any"}, {"schema a\n\tqq any\n", "\tq any"},
		{"schema a\n\tp any\n\tr any\n", "\tq any"}, {"schema a\n\tp any\n\tr any\n", "\tp any"}, {"schema a\n\tp any\nschema b\n\tq any\n", "\tp any"}, {"schema a\n\tq9 any\n", "\tq10 any"},
		{"schema a\n" + lines(api.MaxRules), "\tr any"}, {"schema a\n" + lines(api.MaxRules), "\tr1015 any"}, {full(), "\tr1000 any"}, {full(), "\tr1015 any"}, {full(), "schema s"}, {full(), "schema s1023"}, {full(), "schema s1022 closed"},
	} {
		failsIn(t, []string{c.begin}, c.line, api.ErrOrder)
	}
	// In another schema the rules begin again.
	reads(t, "schema a\n\tq any\nschema b\n\tp any\n\tq empty\n", list(made("a", rule("q", api.RuleAny)), made("b", rule("p", api.RuleAny), rule("q", api.RuleEmpty))))
}

func TestLimitOfLines(t *testing.T) {
	for _, s := range []string{"schema t", "schema s1024", "schema s10230 closed", "schema ~"} {
		failsIn(t, []string{full(), strings.TrimSuffix(full(), lines(api.MaxRules))}, s, api.ErrLimit)
	}
	for _, s := range []string{"\ts any", "\tr1016 required word w", "\tr10150 text x1"} {
		failsIn(t, []string{full(), "schema a\n" + lines(api.MaxRules), "schema a\nschema b\n" + lines(api.MaxRules), "schema a\n" + lines(api.MaxRules) + "schema b\n" + lines(api.MaxRules)}, s, api.ErrLimit)
	}
}

// TestLimitOfText checks that only the first MaxText bytes are looked at, and only if there are no more.
func TestLimitOfText(t *testing.T) {
	_, text := ofBytes(api.MaxText)
	lines := strings.Count(text, "\n")
	isError(t, text[1:]+"\n", api.ErrSyntax, 1)
	isError(t, text[:len(text)-1], api.ErrSyntax, lines)
	isError(t, text[:len(text)-1]+" ", api.ErrSyntax, lines)
	for _, s := range []string{"\n", "\x00", "w", "\tz any\n", "schema t\n", strings.Repeat("\n", 100000)} {
		isError(t, text+s, api.ErrLimit, 0)
		isError(t, s+text, api.ErrLimit, 0)
	}
	for _, n := range []int{api.MaxText - 1, api.MaxText} {
		isError(t, strings.Repeat("\n", n), api.ErrSyntax, 1)
		isError(t, strings.Repeat("a", n), api.ErrSyntax, 1)
		isError(t, "schema a\n\tp word"+strings.Repeat(" w", n/2-10), api.ErrSyntax, 2)
	}
	for _, s := range []string{"\n", "a", "\x00", "schema a\n", "\tp any\n"} {
		isError(t, strings.Repeat(s, api.MaxText/len(s)+1), api.ErrLimit, 0)
	}
}

// TestParseGivesNewMemory checks that what Parse returns shares no memory with itself.
func TestParseGivesNewMemory(t *testing.T) {
	text := "schema a\n\tp word v w\n\tq word v w\nschema b\n\tp word v w\n"
	l, _, _ := schema.Parse(text)
	for i := range l {
		for k := range l[i].Rules {
			before := clone(l)
			l[i].Rules[k].Words[0] = "y"
			_ = append(l[i].Rules[k].Words, "x")
			before[i].Rules[k].Words[0] = "y"
			if !equal(l, before) {
				t.Errorf("%v, not %v", l, before)
			}
		}
		before := clone(l)
		_ = append(l[i].Rules, rule("x", api.RuleAny))
		if !equal(l, before) {
			t.Errorf("%v, not %v", l, before)
		}
	}
	reads(t, text, list(made("a", rule("p", api.RuleWord, "v", "w"), rule("q", api.RuleWord, "v", "w")), made("b", rule("p", api.RuleWord, "v", "w"))))
}
