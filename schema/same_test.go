package schema_test

import (
	"testing"

	"bringup/api"
	"bringup/schema"
)

func isSame(t *testing.T, a, b []api.Schema, want bool) {
	t.Helper()
	before, beside := clone(a), clone(b)
	if schema.Same(a, b) != want || schema.Same(b, a) != want {
		t.Errorf("%.300v and %.300v: not %v", a, b, want)
	}
	if !equal(a, before) || !equal(b, beside) {
		t.Errorf("%.300v or %.300v was changed", before, beside)
	}
}

func TestSameLists(t *testing.T) {
	for _, l := range [][]api.Schema{nil, example(), ordinary(), many(api.MaxSchemas), many(1000), list(ruled("a", 1000)), list(made("b"), made("a"), made("a")), make([]api.Schema, 3)} {
		isSame(t, l, l, true)
		isSame(t, l, clone(l), true)
		isSame(t, l, append(clone(l), made("")), false)
		isSame(t, l, append(clone(l), closed("zz")), false)
		isSame(t, append(list(made("A")), l...), append(clone(l), made("A")), len(l) == 0)
		if len(l) > 0 {
			isSame(t, l, l[1:], false)
			isSame(t, l, l[:len(l)-1], false)
			isSame(t, l, nil, false)
		}
	}
}

func TestSameWithoutElements(t *testing.T) {
	isSame(t, nil, []api.Schema{}, true)
	isSame(t, list(api.Schema{Rules: []api.Rule{}}), list(api.Schema{}), true)
	isSame(t, list(made("a", api.Rule{Words: []string{}})), list(made("a", api.Rule{})), true)
	isSame(t, list(made("a", api.Rule{Words: []string{""}})), list(made("a", api.Rule{})), false)
	isSame(t, list(made("a", api.Rule{})), list(made("a")), false)
	isSame(t, list(api.Schema{}), nil, false)
}

// TestSameDiffers changes each part of schemas that are equal.
func TestSameDiffers(t *testing.T) {
	change := []func(s *api.Schema, r *api.Rule){
		func(s *api.Schema, r *api.Rule) { s.Compatible += "x" },
		func(s *api.Schema, r *api.Rule) { s.Compatible = "" },
		func(s *api.Schema, r *api.Rule) { s.Closed = !s.Closed },
		func(s *api.Schema, r *api.Rule) { s.Rules = s.Rules[:len(s.Rules)-1] },
		func(s *api.Schema, r *api.Rule) { s.Rules = append(s.Rules, s.Rules[0]) },
		func(s *api.Schema, r *api.Rule) { s.Rules = nil },
		func(s *api.Schema, r *api.Rule) { r.Name += "x" },
		func(s *api.Schema, r *api.Rule) { r.Name = "" },
		func(s *api.Schema, r *api.Rule) { r.Required = !r.Required },
		func(s *api.Schema, r *api.Rule) { r.Kind++ },
		func(s *api.Schema, r *api.Rule) { r.Kind = -1 },
		func(s *api.Schema, r *api.Rule) { r.Low++ },
		func(s *api.Schema, r *api.Rule) { r.Low += 1 << 32 },
		func(s *api.Schema, r *api.Rule) { r.High-- },
		func(s *api.Schema, r *api.Rule) { r.High += 1 << 40 },
		func(s *api.Schema, r *api.Rule) { r.Count++ },
		func(s *api.Schema, r *api.Rule) { r.Count = -1 << 63 },
		func(s *api.Schema, r *api.Rule) { r.Words = append(r.Words, "x") },
		func(s *api.Schema, r *api.Rule) { r.Words = append([]string{""}, r.Words...) },
	}
	for i, s := range ordinary() {
		for k := range s.Rules {
			for n, f := range change {
				l := ordinary()
				f(&l[i], &l[i].Rules[k])
				if schema.Same(l, ordinary()) || schema.Same(ordinary(), l) {
					t.Errorf("change %d of rule %d of schema %d makes no difference", n, k, i)
				}
				isSame(t, l, clone(l), true)
			}
			for w := range s.Rules[k].Words {
				l := ordinary()
				l[i].Rules[k].Words[w] += "x"
				isSame(t, l, ordinary(), false)
			}
		}
	}
	isSame(t, list(made("a", rule("p", api.RuleWord, "v", "w"))), list(made("a", rule("p", api.RuleWord, "w", "v"))), false)
	isSame(t, list(made("a", rule("p", api.RuleWord, "vw"))), list(made("a", rule("p", api.RuleWord, "v", "w"))), false)
	isSame(t, list(made("a"), made("b")), list(made("b"), made("a")), false)
	isSame(t, list(made("a", rule("p", 1), rule("q", 1))), list(made("a", rule("q", 1), rule("p", 1))), false)
}
