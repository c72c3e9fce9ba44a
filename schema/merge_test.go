package schema_test

import (
	"slices"
	"testing"

	"bringup/api"
	"bringup/schema"
)

// merges checks the schemas of two lists, in either order, and that the lists stay as they are.
func merges(t *testing.T, a, b, want []api.Schema) {
	t.Helper()
	for range 2 {
		before, beside := clone(a), clone(b)
		l, e := schema.Merge(a, b)
		if !equal(l, want) || e != api.OK {
			t.Errorf("%.300v and %.300v: %.300v, error %d, not %.300v", a, b, l, e, want)
		}
		if !equal(a, before) || !equal(b, beside) {
			t.Errorf("%.300v or %.300v was changed", before, beside)
		}
		if e := schema.Check(l); e != api.OK {
			t.Errorf("%.300v and %.300v: error %d of what is merged", before, beside, e)
		}
		a, b = b, a
	}
}

// isNotMerged checks the error of two lists.
func isNotMerged(t *testing.T, a, b []api.Schema, want api.Errno) {
	t.Helper()
	before, beside := clone(a), clone(b)
	if l, e := schema.Merge(a, b); len(l) > 0 || e != want {
		t.Errorf("%.300v and %.300v: %d schemas, error %d, not %d", a, b, len(l), e, want)
	}
	if !equal(a, before) || !equal(b, beside) {
		t.Errorf("%.300v or %.300v was changed", before, beside)
	}
}

func TestMerge(t *testing.T) {
	a, b, c, d := made("a", rule("p", api.RuleWord, "w", "v")), closed("b", required(cells("p", 1, 2, 3))), made("c"), closed("d", rule("p", api.RuleAny), rule("q", api.RuleEmpty))
	merges(t, nil, nil, nil)
	merges(t, []api.Schema{}, nil, nil)
	merges(t, nil, list(a), list(a))
	merges(t, list(a), list(a), list(a))
	merges(t, list(a), list(b), list(a, b))
	merges(t, list(a, c), list(b, d), list(a, b, c, d))
	merges(t, list(a, d), list(b, c), list(a, b, c, d))
	merges(t, list(a, b), list(c, d), list(a, b, c, d))
	merges(t, list(a, b, c), list(b, c, d), list(a, b, c, d))
	merges(t, list(a, b, c, d), list(b, d), list(a, b, c, d))
	merges(t, list(b, c), list(a, b, c, d), list(a, b, c, d))
	merges(t, list(a, b), list(b, d), list(a, b, d))
	merges(t, list(made("B"), made("a,")), list(made("!"), made("a"), made("a-"), closed("~")), list(made("!"), made("B"), made("a"), made("a,"), made("a-"), closed("~")))
	for _, l := range [][]api.Schema{example(), ordinary(), many(api.MaxSchemas), list(ruled("x", api.MaxRules))} {
		merges(t, l, l, l)
		merges(t, l, clone(l), l)
		merges(t, l, nil, l)
		for i := range l {
			merges(t, l[:i], l[i:], l)
			merges(t, l, l[i:], l)
			merges(t, l, l[:i], l)
			merges(t, l[:i+1], l[i:], l)
		}
	}
	// Lists without elements are equal to each other.
	merges(t, list(made("a", api.Rule{Name: "p", Kind: api.RuleAny, Words: []string{}})), list(made("a", rule("p", api.RuleAny))), list(made("a", rule("p", api.RuleAny))))
	merges(t, list(api.Schema{Compatible: "a", Rules: []api.Rule{}}), list(made("a")), list(made("a")))
}

func TestMergeUpToTheLimit(t *testing.T) {
	all := many(api.MaxSchemas + 1)
	full := all[:api.MaxSchemas]
	for i := range full {
		merges(t, all[:i], all[i:api.MaxSchemas], full)
		merges(t, full, full[i:i+1], full)
		// One that is new is too much, but not as long as one is missing.
		with := slices.Concat(all[:i], all[i+1:])
		merges(t, all[i+1:], all[:i], with)
		isNotMerged(t, with, full, api.ErrLimit)
		isNotMerged(t, full, with, api.ErrLimit)
		isNotMerged(t, list(all[i]), with, api.ErrLimit)
		isNotMerged(t, with, list(all[i]), api.ErrLimit)
	}
	isNotMerged(t, full, all[api.MaxSchemas:], api.ErrLimit)
	other := many(api.MaxSchemas)
	for i := range other {
		other[i].Compatible += "x"
	}
	isNotMerged(t, full, other, api.ErrLimit)
	isNotMerged(t, other, full, api.ErrLimit)
}

func TestMergeConflicts(t *testing.T) {
	base := list(made("a"), closed("b", required(cells("p", 1, 2, 3)), rule("q", api.RuleWord, "v", "w")), made("c"))
	for _, s := range []api.Schema{
		made("a", rule("p", api.RuleAny)),
		closed("a"),
		closed("c"),
		made("b", base[1].Rules...),
		closed("b", base[1].Rules[:1]...),
		closed("b", base[1].Rules[1:]...),
		closed("b", cells("p", 1, 2, 3), base[1].Rules[1]),
		closed("b", required(cells("p", 0, 2, 3)), base[1].Rules[1]),
		closed("b", required(cells("p", 1, 3, 3)), base[1].Rules[1]),
		closed("b", required(cells("p", 1, 2, 0)), base[1].Rules[1]),
		closed("b", required(rule("p", api.RuleAny)), base[1].Rules[1]),
		closed("b", required(cells("o", 1, 2, 3)), base[1].Rules[1]),
		closed("b", base[1].Rules[0], rule("q", api.RuleWord, "w", "v")),
		closed("b", base[1].Rules[0], rule("q", api.RuleWord, "v")),
		closed("b", base[1].Rules[0], rule("q", api.RuleWord, "v", "w", "w")),
	} {
		isNotMerged(t, base, list(s), api.ErrConflict)
		isNotMerged(t, list(s), base, api.ErrConflict)
		isNotMerged(t, base, list(made("A"), s, made("d")), api.ErrConflict)
		isNotMerged(t, list(made("A"), s, made("d")), base, api.ErrConflict)
	}
}

func TestFirstErrorOfMerge(t *testing.T) {
	tooMany, invalid, unordered := many(api.MaxSchemas+1), list(made("a", rule("p", 0))), list(made("b"), made("a"))
	errors := []api.Errno{api.ErrLimit, api.ErrInvalid, api.ErrOrder}
	for i, a := range [][]api.Schema{tooMany, invalid, unordered} {
		for _, b := range [][]api.Schema{nil, example(), many(api.MaxSchemas), list(ruled("a", 3)), closedOf(many(api.MaxSchemas))} {
			isNotMerged(t, a, b, errors[i])
			isNotMerged(t, b, a, errors[i])
		}
		// That of the first list comes before that of the second one.
		for _, b := range [][]api.Schema{tooMany, invalid, unordered} {
			isNotMerged(t, a, b, errors[i])
		}
	}
	// A conflict comes before the limit, wherever the two are that differ.
	full := many(api.MaxSchemas)
	for _, name := range []string{full[0].Compatible, full[5].Compatible, full[api.MaxSchemas-1].Compatible} {
		isNotMerged(t, full, list(made("a"), closed(name)), api.ErrConflict)
		isNotMerged(t, full, list(closed(name), made("t")), api.ErrConflict)
		isNotMerged(t, list(made("a"), closed(name)), full, api.ErrConflict)
		isNotMerged(t, list(closed(name), made("t")), full, api.ErrConflict)
	}
}

// closedOf returns schemas of which each one is closed.
func closedOf(l []api.Schema) []api.Schema {
	l = clone(l)
	for i := range l {
		l[i].Closed = true
	}
	return l
}

// TestMergeOfThree checks that lists can be merged in any order.
func TestMergeOfThree(t *testing.T) {
	all := ordinary()
	// Each schema is in some of three lists.
	for n := range 1 << (3 * len(all)) {
		var lists [3][]api.Schema
		var want []api.Schema
		for i, s := range all {
			in := n >> (3 * i) & 7
			for k := range lists {
				if in>>k&1 == 1 {
					lists[k] = append(lists[k], s)
				}
			}
			if in > 0 {
				want = append(want, s)
			}
		}
		for _, order := range [][3]int{{0, 1, 2}, {0, 2, 1}, {1, 2, 0}} {
			ab, e := schema.Merge(lists[order[0]], lists[order[1]])
			if e != api.OK {
				t.Fatalf("error %d", e)
			}
			merges(t, ab, lists[order[2]], want)
		}
	}
}

// TestMergeGivesNewMemory changes all of what is merged.
func TestMergeGivesNewMemory(t *testing.T) {
	for _, b := range [][]api.Schema{nil, ordinary(), ordinary()[1:3], many(3)} {
		a := ordinary()
		before, beside := clone(a), clone(b)
		for _, lists := range [][2][]api.Schema{{a, b}, {b, a}} {
			l, e := schema.Merge(lists[0], lists[1])
			if e != api.OK {
				t.Fatalf("error %d", e)
			}
			for i := range l {
				for k := range l[i].Rules {
					for w := range l[i].Rules[k].Words {
						l[i].Rules[k].Words[w] = "changed"
					}
					_ = append(l[i].Rules[k].Words, "more")
					l[i].Rules[k] = rule("changed", 0)
				}
				_ = append(l[i].Rules, rule("more", 0))
				l[i] = made("changed")
			}
			if !equal(a, before) || !equal(b, beside) {
				t.Errorf("%v and %v became %v and %v", before, beside, a, b)
			}
		}
	}
	// The memory behind a list is its own, too.
	room := append(make([]api.Schema, 0, 100), made("b"))
	behind := room[:100]
	merges(t, room, list(made("a"), made("c")), list(made("a"), made("b"), made("c")))
	if behind[1].Compatible != "" || behind[2].Compatible != "" {
		t.Errorf("%v was written behind a list", behind[:3])
	}
}
