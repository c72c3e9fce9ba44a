package schema_test

import (
	"fmt"
	"maps"
	"math/rand"
	"regexp"
	"slices"
	"strconv"
	"strings"
	"testing"

	"bringup/api"
	"bringup/schema"
)

// The forms of the lines, of which the number of words and the ranges of numbers are a part as far as a form can say it.
var (
	wordForm   = regexp.MustCompile(`\A[!-~]{1,31}\z`)
	nameForm   = regexp.MustCompile(`\A[A-Za-z_#][A-Za-z0-9_,.+?#-]{0,30}\z`)
	schemaForm = regexp.MustCompile(`\Aschema ([!-~]{1,31})( closed)?\n\z`)
	ruleForm   = regexp.MustCompile(`\A\t([A-Za-z_#][A-Za-z0-9_,.+?#-]{0,30})( required)? (any|empty|cells (0|[1-9][0-9]{0,9})\.\.(0|[1-9][0-9]{0,9})|word((?: [!-~]{1,31}){1,16})|text|handle)(?: x([1-9]|[1-5][0-9]|6[0-4]))?\n\z`)
)

var kindNames = []string{"", "any", "empty", "cells", "word", "text", "handle"}

// modelRule returns the rule of a line, and whether it is one.
func modelRule(line string) (api.Rule, bool) {
	m := ruleForm.FindStringSubmatch(line)
	if m == nil {
		return api.Rule{}, false
	}
	kind, _, _ := strings.Cut(m[3], " ")
	r := api.Rule{Name: m[1], Required: m[2] != "", Kind: slices.Index(kindNames, kind)}
	if r.Kind == api.RuleWord {
		// The form takes a last word such as x5 as a count.
		r.Words = strings.Fields(strings.TrimPrefix(line, "\t"+m[1]+m[2]+" word "))
		return r, len(r.Words) <= api.MaxWords
	}
	r.Low, _ = strconv.Atoi(m[4])
	r.High, _ = strconv.Atoi(m[5])
	r.Count, _ = strconv.Atoi(m[7])
	if r.Count > 0 && r.Kind <= api.RuleEmpty {
		return api.Rule{}, false
	}
	return r, r.Low <= r.High && r.High <= 1<<32-1
}

// modelParse reads a text once more.
func modelParse(text string) ([]api.Schema, int, api.Errno) {
	var out []api.Schema
	if len(text) > 16000 {
		return nil, 0, api.ErrLimit
	}
	for i, line := range strings.SplitAfter(text, "\n") {
		if line == "" {
			break
		}
		last := len(out) - 1
		e := api.ErrSyntax
		if m := schemaForm.FindStringSubmatch(line); m != nil {
			switch {
			case last >= 0 && out[last].Compatible >= m[1]:
				e = api.ErrOrder
			case last == 23:
				e = api.ErrLimit
			default:
				e = api.OK
				out = append(out, api.Schema{Compatible: m[1], Closed: m[2] != ""})
			}
		} else if r, ok := modelRule(line); ok && last >= 0 {
			n := len(out[last].Rules)
			switch {
			case n > 0 && out[last].Rules[n-1].Name >= r.Name:
				e = api.ErrOrder
			case n == 16:
				e = api.ErrLimit
			default:
				e = api.OK
				out[last].Rules = append(out[last].Rules, r)
			}
		}
		if e != api.OK {
			return nil, i + 1, e
		}
	}
	return out, 0, api.OK
}

// modelCheck checks schemas once more.
func modelCheck(l []api.Schema) api.Errno {
	limit, invalid, order := len(l) > 24, false, false
	for i, s := range l {
		limit = limit || len(s.Rules) > 16
		invalid = invalid || !wordForm.MatchString(s.Compatible)
		order = order || i > 0 && s.Compatible <= l[i-1].Compatible
		for k, r := range s.Rules {
			counts, isCells, isWord := r.Kind == 3 || r.Kind >= 5, r.Kind == 3, r.Kind == 4
			invalid = invalid || !nameForm.MatchString(r.Name) || r.Kind < 1 || r.Kind > 6 ||
				isCells && (r.Low < 0 || r.Low > r.High || r.High > 1<<32-1) || !isCells && (r.Low != 0 || r.High != 0) ||
				counts && (r.Count < 0 || r.Count > 64) || !counts && r.Count != 0 ||
				isWord && (len(r.Words) == 0 || len(r.Words) > 16) || !isWord && len(r.Words) > 0 ||
				slices.ContainsFunc(r.Words, func(w string) bool { return !wordForm.MatchString(w) })
			order = order || k > 0 && r.Name <= s.Rules[k-1].Name
		}
	}
	switch {
	case limit:
		return api.ErrLimit
	case invalid:
		return api.ErrInvalid
	case order:
		return api.ErrOrder
	}
	return api.OK
}

// modelText writes valid schemas once more.
func modelText(l []api.Schema) string {
	when := func(is bool, s string) string {
		if is {
			return s
		}
		return ""
	}
	out := ""
	for _, s := range l {
		out += fmt.Sprintf("schema %s%s\n", s.Compatible, when(s.Closed, " closed"))
		for _, r := range s.Rules {
			out += fmt.Sprintf("\t%s%s %s%s%s%s\n", r.Name, when(r.Required, " required"), kindNames[r.Kind], when(r.Kind == api.RuleCells, fmt.Sprintf(" %d..%d", r.Low, r.High)),
				when(r.Count > 0, fmt.Sprintf(" x%d", r.Count)), when(r.Kind == api.RuleWord, " "+strings.Join(r.Words, " ")))
		}
	}
	return out
}

// parsesAsModel checks what Parse says of a text, and returns the error.
func parsesAsModel(t *testing.T, text string) api.Errno {
	t.Helper()
	want, at, e := modelParse(text)
	if e == api.OK {
		reads(t, text, want)
	} else {
		isError(t, text, e, at)
	}
	return e
}

// TestAllShortTexts reads all texts of a few pieces.
func TestAllShortTexts(t *testing.T) {
	counts := map[api.Errno]int{}
	all := func(begin string, most int, pieces ...string) {
		var fill func(text string, n int)
		fill = func(text string, n int) {
			counts[parsesAsModel(t, text)]++
			for _, s := range pieces {
				if n < most {
					fill(text+s, n+1)
				}
			}
		}
		fill(begin, 0)
	}
	all("", 6, "schema", " ", "\n", "a", "b", "\t", " closed", "x any")
	all("schema a\n\tp", 6, " ", "required", "any", "cells", "1", "..", " x", "\n")
	all("schema a\n\tp ", 5, "cells ", "word", "text", "0", "2", "..", " x6", " ", "\n", "\tq ")
	all("schema a\n", 6, "\tp", "\tq", " any", " text", " x1", " required", " w", "\n")
	all("schema a\n\tp cells 1..", 5, "0", "1", "9", "429496729", "5", "6", " x", "-", "\n")
	all("schema a\n\tp word", 6, " ", "w", "\x7f", "\t", "\n", " x1")
	all("schema b\n\tp any\n", 5, "schema a\n", "schema b closed\n", "schema c\n", "\to any\n", "\tp text\n", "\tq any\n")
	for _, e := range []api.Errno{api.OK, api.ErrSyntax, api.ErrOrder} {
		if counts[e] < 50 {
			t.Errorf("%d texts with the error %d", counts[e], e)
		}
	}
}

// pick returns one of the elements of a list.
func pick[T any](random *rand.Rand, l ...T) T { return l[random.Intn(len(l))] }

// randomWord returns a word of printable bytes.
func randomWord(random *rand.Rand) string {
	b := make([]byte, pick(random, 1, 1, 2, 5, 30, 31))
	for i := range b {
		b[i] = byte(33 + random.Intn(94))
	}
	return pick(random, string(b), "x1", "closed", "required", "a", "b")
}

// randomName returns the name of a property.
func randomName(random *rand.Rand) string {
	b := []byte{pick(random, []byte("abcxyzABCXYZ_#")...)}
	for range pick(random, 0, 0, 1, 2, 3, 29, 30) {
		b = append(b, pick(random, []byte("abcxyzABCXYZ_#0189,.+?-")...))
	}
	return string(b)
}

// randomRule returns a valid rule.
func randomRule(random *rand.Rand) api.Rule {
	r := api.Rule{Name: randomName(random), Required: random.Intn(2) == 0, Kind: 1 + random.Intn(6)}
	switch r.Kind {
	case api.RuleCells:
		r.Low = pick(random, 0, 1, 9, 10, random.Intn(1<<32), api.MaxCell)
		r.High = pick(random, r.Low, r.Low+random.Intn(1<<32-r.Low), api.MaxCell)
	case api.RuleWord:
		for range pick(random, 1, 1, 2, 3, api.MaxWords) {
			r.Words = append(r.Words, randomWord(random))
		}
	}
	if r.Kind == api.RuleCells || r.Kind == api.RuleText || r.Kind == api.RuleHandle {
		r.Count = pick(random, 0, 0, 1, 9, 10, 63, 64)
	}
	return r
}

// randomSchemas returns valid schemas.
func randomSchemas(random *rand.Rand) []api.Schema {
	l := map[string]api.Schema{}
	for range pick(random, 0, 1, 2, 3, 5, api.MaxSchemas) {
		rules := map[string]api.Rule{}
		for range pick(random, 0, 0, 1, 2, 3, api.MaxRules) {
			r := randomRule(random)
			rules[r.Name] = r
		}
		s := api.Schema{Compatible: randomWord(random), Closed: random.Intn(2) == 0}
		for _, name := range slices.Sorted(maps.Keys(rules)) {
			s.Rules = append(s.Rules, rules[name])
		}
		l[s.Compatible] = s
	}
	var out []api.Schema
	for _, s := range slices.Sorted(maps.Keys(l)) {
		out = append(out, l[s])
	}
	return out
}

func TestManySchemas(t *testing.T) {
	random := rand.New(rand.NewSource(1))
	for range 5000 {
		l := randomSchemas(random)
		checks(t, l, api.OK)
		text := modelText(l)
		writes(t, l, text)
		isSame(t, l, clone(l), true)
		for i, s := range l {
			finds(t, l, s.Compatible, i, true)
		}
	}
}

// damage changes a few bytes, words or lines of a text.
func damage(random *rand.Rand, text string) string {
	for range 1 + random.Intn(3) {
		at := random.Intn(len(text) + 1)
		to := min(at+random.Intn(3), len(text))
		switch random.Intn(6) {
		case 0:
			text = text[:at] + text[to:]
		case 1:
			text = text[:at] + string(pick(random, []byte(" \t\n\x00\r\x7f\xff0x.a@")...)) + text[to:]
		case 2:
			text = text[:at] + pick(random, " ", "\t", "\n", "x1", " required", " closed", " any", "..", "0", "schema a\n", "\tp any\n") + text[at:]
		case 3:
			words := strings.SplitAfter(text, " ")
			i, k := random.Intn(len(words)), random.Intn(len(words))
			words[i], words[k] = words[k], words[i]
			text = strings.Join(words, "")
		default:
			l := strings.SplitAfter(text, "\n")
			i, k := random.Intn(len(l)), random.Intn(len(l))
			l[i], l[k] = l[k], pick(random, l[i], l[k])
			text = strings.Join(l, "")
		}
	}
	return text
}

func TestManyTexts(t *testing.T) {
	random := rand.New(rand.NewSource(2))
	counts := map[api.Errno]int{}
	for range 15000 {
		l := randomSchemas(random)
		if random.Intn(8) == 0 {
			l = append(l, many(api.MaxSchemas)...)
		}
		if n := len(l); n > 0 && random.Intn(8) == 0 {
			l[n-1].Rules = append(l[n-1].Rules, ruled("", api.MaxRules).Rules...)
		}
		text := modelText(l)
		if random.Intn(4) > 0 {
			text = damage(random, text)
		}
		counts[parsesAsModel(t, text)]++
	}
	for _, e := range []api.Errno{api.OK, api.ErrSyntax, api.ErrOrder, api.ErrLimit} {
		if counts[e] < 200 {
			t.Errorf("%d texts with the error %d", counts[e], e)
		}
	}
}

// spoil changes a part of schemas.
func spoil(random *rand.Rand, l []api.Schema) []api.Schema {
	if len(l) == 0 {
		return many(random.Intn(30))
	}
	s := &l[random.Intn(len(l))]
	switch random.Intn(6) {
	case 0:
		s.Compatible = pick(random, "", " ", "a b", "~", "\x7f", "!", "a", strings.Repeat("a", 31), strings.Repeat("a", 32))
	case 1:
		s.Rules = append(s.Rules, ruled("", random.Intn(18)).Rules...)
	case 2:
		l = append(l, many(random.Intn(25))...)
	}
	if len(s.Rules) == 0 {
		return l
	}
	r := &s.Rules[random.Intn(len(s.Rules))]
	switch random.Intn(10) {
	case 0:
		r.Name = pick(random, "", "1", "a@", "#", "~", "A", "z", strings.Repeat("z", 31), strings.Repeat("z", 32))
	case 1:
		r.Kind = random.Intn(9) - 1
	case 2:
		r.Low = pick(random, -1, 0, 1, 5, api.MaxCell, api.MaxCell+1)
	case 3:
		r.High = pick(random, -1, 0, 1, 5, api.MaxCell, api.MaxCell+1)
	case 4:
		r.Count = pick(random, -1, 0, 1, 64, 65)
	case 5:
		r.Words = numbered("w", random.Intn(18))
	case 6:
		r.Words = append(r.Words, pick(random, "", " ", "a", "\x80", strings.Repeat("w", 31), strings.Repeat("w", 32)))
	}
	return l
}

func TestManySpoiledSchemas(t *testing.T) {
	random := rand.New(rand.NewSource(3))
	counts := map[api.Errno]int{}
	for range 15000 {
		l := spoil(random, randomSchemas(random))
		if random.Intn(3) == 0 {
			l = spoil(random, l)
		}
		want := modelCheck(l)
		counts[want]++
		checks(t, l, want)
		s, e := schema.Format(l)
		if e != want || want == api.OK && s != modelText(l) || want != api.OK && s != "" {
			t.Errorf("%.300v: %.300q, error %d, not %d", l, s, e, want)
		}
	}
	for _, e := range []api.Errno{api.OK, api.ErrLimit, api.ErrInvalid, api.ErrOrder} {
		if counts[e] < 200 {
			t.Errorf("%d schemas with the error %d", counts[e], e)
		}
	}
}

// modelMerge merges two lists once more.
func modelMerge(a, b []api.Schema) ([]api.Schema, api.Errno) {
	for _, l := range [][]api.Schema{a, b} {
		if e := modelCheck(l); e != api.OK {
			return nil, e
		}
	}
	all := map[string]api.Schema{}
	for _, s := range a {
		all[s.Compatible] = s
	}
	for _, s := range b {
		if x, ok := all[s.Compatible]; ok && !equal(list(x), list(s)) {
			return nil, api.ErrConflict
		}
		all[s.Compatible] = s
	}
	if len(all) > 24 {
		return nil, api.ErrLimit
	}
	var out []api.Schema
	for _, s := range slices.Sorted(maps.Keys(all)) {
		out = append(out, all[s])
	}
	return out, api.OK
}

func TestManyMerges(t *testing.T) {
	random := rand.New(rand.NewSource(4))
	counts := map[api.Errno]int{}
	part := func(l []api.Schema) []api.Schema {
		return slices.DeleteFunc(clone(l), func(api.Schema) bool { return random.Intn(3) == 0 })
	}
	for range 15000 {
		a := randomSchemas(random)
		b := part(a)
		for _, s := range randomSchemas(random) {
			if _, ok := schema.Find(a, s.Compatible); !ok {
				b = append(b, s)
			}
		}
		slices.SortFunc(b, func(x, y api.Schema) int { return strings.Compare(x.Compatible, y.Compatible) })
		a = part(a)
		if random.Intn(3) == 0 {
			b = spoil(random, b)
		}
		if random.Intn(5) == 0 {
			a = spoil(random, a)
		}
		want, e := modelMerge(a, b)
		counts[e]++
		if e == api.OK {
			merges(t, a, b, want)
		} else {
			isNotMerged(t, a, b, e)
			_, e = modelMerge(b, a)
			isNotMerged(t, b, a, e)
		}
	}
	for _, e := range []api.Errno{api.OK, api.ErrLimit, api.ErrInvalid, api.ErrOrder, api.ErrConflict} {
		if counts[e] < 100 {
			t.Errorf("%d merges with the error %d", counts[e], e)
		}
	}
}
