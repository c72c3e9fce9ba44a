package schema_test

import (
	"slices"
	"strconv"
	"strings"
	"testing"

	"bringup/api"
	"bringup/schema"
)

const maxCount = 64

func made(compatible string, l ...api.Rule) api.Schema {
	return api.Schema{Compatible: compatible, Rules: l}
}

func closed(compatible string, l ...api.Rule) api.Schema {
	return api.Schema{Compatible: compatible, Closed: true, Rules: l}
}

func rule(name string, kind int, words ...string) api.Rule {
	return api.Rule{Name: name, Kind: kind, Words: words}
}

func cells(name string, low, high, count int) api.Rule {
	return api.Rule{Name: name, Kind: api.RuleCells, Low: low, High: high, Count: count}
}

func counted(name string, kind, count int) api.Rule {
	return api.Rule{Name: name, Kind: kind, Count: count}
}

func required(r api.Rule) api.Rule {
	r.Required = true
	return r
}

func list(l ...api.Schema) []api.Schema { return l }

// clone returns schemas that share no memory with others.
func clone(l []api.Schema) []api.Schema {
	l = slices.Clone(l)
	for i := range l {
		l[i].Rules = slices.Clone(l[i].Rules)
		for k := range l[i].Rules {
			l[i].Rules[k].Words = slices.Clone(l[i].Rules[k].Words)
		}
	}
	return l
}

// equal compares schemas once more, by all that is in them.
func equal(a, b []api.Schema) bool {
	return slices.EqualFunc(a, b, func(x, y api.Schema) bool {
		return x.Compatible == y.Compatible && x.Closed == y.Closed && slices.EqualFunc(x.Rules, y.Rules, func(r, s api.Rule) bool {
			words := slices.Equal(r.Words, s.Words)
			r.Words, s.Words = nil, nil
			return words && r.Name == s.Name && [4]int{r.Kind, r.Low, r.High, r.Count} == [4]int{s.Kind, s.Low, s.High, s.Count} && r.Required == s.Required
		})
	})
}

// numbered returns so many names, ascending.
func numbered(prefix string, n int) []string {
	var out []string
	for i := range n {
		out = append(out, prefix+strconv.Itoa(1000+i))
	}
	return out
}

// many returns so many schemas without rules, ascending.
func many(n int) []api.Schema {
	var out []api.Schema
	for _, s := range numbered("s", n) {
		out = append(out, made(s))
	}
	return out
}

// ruled returns a schema with so many rules, ascending.
func ruled(compatible string, n int) api.Schema {
	out := made(compatible)
	for _, s := range numbered("r", n) {
		out.Rules = append(out.Rules, rule(s, api.RuleAny))
	}
	return out
}

// example is the one of the chapter.
func example() []api.Schema {
	return list(closed("fixed-clock", required(cells("clock-frequency", 1, 4000000000, 1))))
}

// ordinary returns schemas with rules of all kinds.
func ordinary() []api.Schema {
	return list(
		made("a,bus"),
		closed("b", required(rule("#p", api.RuleEmpty)), rule("any", api.RuleAny), cells("q", 0, api.MaxCell, 0), rule("status", api.RuleWord, "okay", "disabled")),
		made("c", required(counted("clocks", api.RuleHandle, 2)), counted("names", api.RuleText, maxCount), required(rule("phy", api.RuleHandle)), rule("text", api.RuleText)),
		closed("d"))
}

func checks(t *testing.T, l []api.Schema, want api.Errno) {
	t.Helper()
	before := clone(l)
	if e := schema.Check(l); e != want {
		t.Errorf("%.300v: error %d, not %d", l, e, want)
	}
	if !equal(l, before) {
		t.Errorf("%.300v was changed", before)
	}
}

// checksRule checks what a rule alone, and one among others, makes of schemas.
func checksRule(t *testing.T, r api.Rule, want api.Errno) {
	t.Helper()
	checks(t, list(made("a", r)), want)
	checks(t, list(closed("a", rule("A", api.RuleAny), required(r), rule("z", api.RuleEmpty)), made("b")), want)
	checks(t, list(made("a"), ruled("b", api.MaxRules), made("c", cells("A", 1, 2, 3), rule("B", api.RuleWord, "w"), r)), want)
}

func TestValidSchemas(t *testing.T) {
	checks(t, nil, api.OK)
	checks(t, []api.Schema{}, api.OK)
	checks(t, example(), api.OK)
	checks(t, ordinary(), api.OK)
	checks(t, list(made("a", []api.Rule{}...), api.Schema{Compatible: "b", Rules: []api.Rule{{Name: "p", Kind: api.RuleAny, Words: []string{}}}}), api.OK)
	// Two schemas may have rules for the same name, and names and words may be those of texts.
	checks(t, list(made("a", rule("p", api.RuleAny)), made("b", rule("p", api.RuleEmpty))), api.OK)
	checks(t, list(made("closed", rule("required", api.RuleWord, "required", "closed", "x1")), made("schema", rule("schema", api.RuleAny))), api.OK)
	checks(t, list(made("a", rule("p", api.RuleWord, "b", "a", "b", "b"))), api.OK)
}

func TestNumberOfSchemas(t *testing.T) {
	for _, n := range []int{1, 2, api.MaxSchemas - 1, api.MaxSchemas} {
		checks(t, many(n), api.OK)
	}
	for _, n := range []int{api.MaxSchemas + 1, api.MaxSchemas + 2, 1000} {
		checks(t, many(n), api.ErrLimit)
	}
	// Such schemas are not looked at any further.
	checks(t, make([]api.Schema, api.MaxSchemas), api.ErrInvalid)
	checks(t, make([]api.Schema, api.MaxSchemas+1), api.ErrLimit)
	checks(t, make([]api.Schema, 1<<20), api.ErrLimit)
}

func TestNumberOfRules(t *testing.T) {
	for _, n := range []int{1, 2, api.MaxRules - 1, api.MaxRules} {
		checks(t, list(ruled("a", n)), api.OK)
		checks(t, list(ruled("a", api.MaxRules), made("b"), ruled("c", n)), api.OK)
	}
	for _, n := range []int{api.MaxRules + 1, api.MaxRules + 2, 1000} {
		checks(t, list(ruled("a", n)), api.ErrLimit)
		checks(t, list(ruled("a", api.MaxRules), made("b"), ruled("c", n)), api.ErrLimit)
		checks(t, list(ruled("a", n), made("b")), api.ErrLimit)
	}
	checks(t, list(made("a", make([]api.Rule, api.MaxRules)...)), api.ErrInvalid)
	checks(t, list(made("a", make([]api.Rule, api.MaxRules+1)...)), api.ErrLimit)
	full := many(api.MaxSchemas)
	for i := range full {
		full[i] = ruled(full[i].Compatible, api.MaxRules)
	}
	checks(t, full, api.OK)
	full[api.MaxSchemas-1] = ruled("t", api.MaxRules+1)
	checks(t, full, api.ErrLimit)
}

// words calls a function for texts, and for whether they have the bytes and the length of a compatible string.
func words(see func(s string, ok bool)) {
	for b := range 256 {
		ok := b >= 33 && b <= 126
		for _, s := range []string{"", "a", "zz"} {
			see(string([]byte{byte(b)})+s, ok)
			see(s+string([]byte{byte(b)}), ok)
			see("a"+string([]byte{byte(b)})+s, ok)
		}
	}
	see("", false)
	see("fixed-clock", true)
	see("é", false)
	for _, c := range []string{"!", "~", "a"} {
		for _, n := range []int{1, 2, api.MaxName - 1, api.MaxName} {
			see(strings.Repeat(c, n), true)
		}
		for _, n := range []int{api.MaxName + 1, api.MaxName + 2, 1000} {
			see(strings.Repeat(c, n), false)
		}
	}
	see(strings.Repeat("a", api.MaxName-1)+" ", false)
}

// unless returns OK if something holds, and otherwise an error.
func unless(e api.Errno, holds bool) api.Errno {
	if holds {
		return api.OK
	}
	return e
}

func TestCompatible(t *testing.T) {
	words(func(s string, ok bool) {
		checks(t, list(made(s)), unless(api.ErrInvalid, ok))
		checks(t, list(closed(s, rule("p", api.RuleAny))), unless(api.ErrInvalid, ok))
		if !ok {
			checks(t, list(made("!"), made(s), made("~~~~")), api.ErrInvalid)
			checks(t, list(made("~"), made(s), made("!")), api.ErrInvalid)
		}
	})
}

// kinds are a valid rule of each kind.
func kinds() []api.Rule {
	return []api.Rule{rule("p", api.RuleAny), rule("p", api.RuleEmpty), cells("p", 1, 5, 2), rule("p", api.RuleWord, "w"), counted("p", api.RuleText, 2), counted("p", api.RuleHandle, 2)}
}

func TestNamesOfRules(t *testing.T) {
	names := map[string]bool{"": false, "a@1": false, "@": false, "##": true, "a b": false, "a\tb": false, "é": false, "aé": false}
	for b := range 256 {
		s := string([]byte{byte(b)})
		names[s] = b >= 'a' && b <= 'z' || b >= 'A' && b <= 'Z' || b == '_' || b == '#'
		names["a"+s] = names[s] || b >= '0' && b <= '9' || strings.Contains(",.+-?", s)
	}
	for _, n := range []int{api.MaxName - 1, api.MaxName, api.MaxName + 1, 1000} {
		names[strings.Repeat("n", n)] = n <= api.MaxName
	}
	for _, r := range kinds() {
		for s, ok := range names {
			r.Name = s
			checks(t, list(made("a", r)), unless(api.ErrInvalid, ok))
			if !ok {
				checksRule(t, r, api.ErrInvalid)
			}
		}
	}
}

func TestKinds(t *testing.T) {
	for i, r := range kinds() {
		if r.Kind != i+1 {
			t.Errorf("%d has the kind %d", i, r.Kind)
		}
		checksRule(t, r, api.OK)
		for _, kind := range []int{0, -1, 7, 8, 100, 1 << 32, -1 << 63, 1<<63 - 1, 1<<32 + 1, 257} {
			r.Kind = kind
			checksRule(t, r, api.ErrInvalid)
		}
	}
	for kind := -1; kind <= 8; kind++ {
		checksRule(t, rule("p", kind), unless(api.ErrInvalid, kind >= 1 && kind <= 6 && kind != api.RuleWord))
	}
}

func TestRanges(t *testing.T) {
	numbers := []int{-1 << 63, -1 << 32, -2, -1, 0, 1, 2, 5, api.MaxCell - 1, api.MaxCell, api.MaxCell + 1, api.MaxCell + 2, 1 << 33, 1<<63 - 1}
	for _, r := range kinds() {
		for _, low := range numbers {
			for _, high := range numbers {
				r.Low, r.High = low, high
				ok := low == 0 && high == 0
				if r.Kind == api.RuleCells {
					ok = low >= 0 && low <= high && high <= 4294967295
				}
				checksRule(t, r, unless(api.ErrInvalid, ok))
			}
		}
	}
}

func TestCounts(t *testing.T) {
	for _, r := range kinds() {
		for _, n := range []int{-1 << 63, -64, -1, 0, 1, 2, 63, 64, 65, 66, 1000, 1 << 32, 1<<63 - 1} {
			r.Count = n
			ok := n == 0 || n > 0 && n <= 64 && (r.Kind == api.RuleCells || r.Kind == api.RuleText || r.Kind == api.RuleHandle)
			checksRule(t, r, unless(api.ErrInvalid, ok))
		}
	}
}

func TestWords(t *testing.T) {
	for _, r := range kinds() {
		isWord := r.Kind == api.RuleWord
		for _, n := range []int{0, 1, 2, api.MaxWords - 1, api.MaxWords, api.MaxWords + 1, api.MaxWords + 2, 10000} {
			r.Words = numbered("w", n)
			checksRule(t, r, unless(api.ErrInvalid, isWord && n > 0 && n <= 16 || !isWord && n == 0))
		}
		r.Words = []string{}
		checksRule(t, r, unless(api.ErrInvalid, !isWord))
		r.Words = []string{""}
		checksRule(t, r, api.ErrInvalid)
	}
	words(func(s string, ok bool) {
		checksRule(t, rule("p", api.RuleWord, s), unless(api.ErrInvalid, ok))
		checksRule(t, rule("p", api.RuleWord, "w", s, "v"), unless(api.ErrInvalid, ok))
		checksRule(t, rule("p", api.RuleWord, append(numbered("w", api.MaxWords-1), s)...), unless(api.ErrInvalid, ok))
	})
}

func TestOrderOfNames(t *testing.T) {
	for _, c := range []struct {
		names string
		want  api.Errno
	}{
		{"a b c", api.OK}, {"a aa ab b", api.OK}, {"B a", api.OK}, {"# _", api.OK}, {"a, a-", api.OK}, {"a10 a9", api.OK},
		{"a a", api.ErrOrder}, {"b a", api.ErrOrder}, {"a b b", api.ErrOrder}, {"a c b", api.ErrOrder}, {"a b a", api.ErrOrder},
		{"aa a", api.ErrOrder}, {"a B", api.ErrOrder}, {"_ #", api.ErrOrder}, {"a9 a10", api.ErrOrder}, {"a- a,", api.ErrOrder},
	} {
		var l []api.Schema
		s := made("z")
		for _, name := range strings.Fields(c.names) {
			l = append(l, made(name))
			s.Rules = append(s.Rules, rule(name, api.RuleAny))
		}
		checks(t, l, c.want)
		checks(t, list(s), c.want)
		checks(t, list(ruled("a", api.MaxRules), s, ruled("zz", 3)), c.want)
	}
	checks(t, list(made("!"), made("~")), api.OK)
	checks(t, list(made("~"), made("!")), api.ErrOrder)
	// Equal names of different schemas and rules are equal.
	checks(t, list(made("a", rule("p", api.RuleAny), rule("p", api.RuleEmpty))), api.ErrOrder)
	checks(t, list(closed("a"), made("a", rule("p", api.RuleAny))), api.ErrOrder)
	last := many(api.MaxSchemas)
	last[api.MaxSchemas-1].Compatible = "s"
	checks(t, last, api.ErrOrder)
	s := ruled("a", api.MaxRules)
	s.Rules[api.MaxRules-1].Name = "r"
	checks(t, list(s), api.ErrOrder)
}

func TestFirstErrorOfSchemas(t *testing.T) {
	// The lists are in the order of their errors.
	bad := [][]api.Schema{
		many(api.MaxSchemas + 1),
		list(ruled("s", api.MaxRules+1)),
		list(made("s s")),
		list(made("s", rule("p", 0))),
		list(made("s", rule("q", api.RuleAny), rule("p", api.RuleAny))),
		list(made("s"), made("r")),
	}
	errors := []api.Errno{api.ErrLimit, api.ErrLimit, api.ErrInvalid, api.ErrInvalid, api.ErrOrder, api.ErrOrder}
	for i, x := range bad {
		checks(t, x, errors[i])
		for k, y := range bad {
			checks(t, append(clone(x), y...), errors[min(i, k)])
		}
	}
	s := made("s", rule("q", api.RuleAny), rule("p", 0))
	checks(t, list(s), api.ErrInvalid)
	s.Rules = append(s.Rules, make([]api.Rule, api.MaxRules)...)
	checks(t, list(s), api.ErrLimit)
}
