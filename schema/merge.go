package schema

import (
	"slices"
	"strings"

	"bringup/api"
)

// merge returns the schemas of two valid lists.
func merge(a, b []api.Schema) ([]api.Schema, api.Errno) {
	out := slices.Clone(a)
	for _, s := range b {
		i, ok := Find(a, s.Compatible)
		if !ok {
			out = append(out, s)
		} else if !same(a[i], s) {
			return nil, api.ErrConflict
		}
	}
	if len(out) > api.MaxSchemas {
		return nil, api.ErrLimit
	}
	for i, s := range out {
		out[i] = copyOf(s)
	}
	slices.SortFunc(out, func(x, y api.Schema) int { return strings.Compare(x.Compatible, y.Compatible) })
	return out, api.OK
}

// copyOf returns a schema that shares no memory with another one.
func copyOf(s api.Schema) api.Schema {
	s.Rules = slices.Clone(s.Rules)
	for i := range s.Rules {
		s.Rules[i].Words = slices.Clone(s.Rules[i].Words)
	}
	return s
}

// same reports whether two schemas are equal.
func same(a, b api.Schema) bool {
	return a.Compatible == b.Compatible && a.Closed == b.Closed && slices.EqualFunc(a.Rules, b.Rules, sameRule)
}

// sameRule reports whether two rules are equal.
func sameRule(a, b api.Rule) bool {
	return a.Name == b.Name && a.Required == b.Required && a.Kind == b.Kind &&
		a.Low == b.Low && a.High == b.High && a.Count == b.Count && slices.Equal(a.Words, b.Words)
}
