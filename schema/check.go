package schema

import (
	"bringup/api"
	"bringup/tree"
)

// maxCount is the greatest number of cells or strings that a rule can ask for.
const maxCount = 64

// limited reports whether the numbers of schemas and of their rules are within their limits.
func limited(l []api.Schema) bool {
	if len(l) > api.MaxSchemas {
		return false
	}
	for _, s := range l {
		if len(s.Rules) > api.MaxRules {
			return false
		}
	}
	return true
}

// formed reports whether all compatible strings are words, and all rules are valid.
func formed(l []api.Schema) bool {
	for _, s := range l {
		if !isWord(s.Compatible) {
			return false
		}
		for _, r := range s.Rules {
			if !isRule(r) {
				return false
			}
		}
	}
	return true
}

// isRule reports whether a rule is valid.
func isRule(r api.Rule) bool {
	return tree.Property(r.Name) && hasKind(r) && hasRange(r) && hasCount(r) && hasWords(r)
}

// hasKind reports whether the kind of a rule is one.
func hasKind(r api.Rule) bool {
	return r.Kind >= api.RuleAny && r.Kind <= api.RuleHandle
}

// hasRange reports whether Low and High of a rule are right for its kind.
func hasRange(r api.Rule) bool {
	if r.Kind != api.RuleCells {
		return r.Low == 0 && r.High == 0
	}
	return 0 <= r.Low && r.Low <= r.High && r.High <= api.MaxCell
}

// hasCount reports whether the count of a rule is right for its kind.
func hasCount(r api.Rule) bool {
	switch r.Kind {
	case api.RuleCells, api.RuleText, api.RuleHandle:
		return 0 <= r.Count && r.Count <= maxCount
	}
	return r.Count == 0
}

// hasWords reports whether the words of a rule are right for its kind.
func hasWords(r api.Rule) bool {
	if r.Kind != api.RuleWord {
		return len(r.Words) == 0
	}
	if len(r.Words) < 1 || len(r.Words) > api.MaxWords {
		return false
	}
	for _, w := range r.Words {
		if !isWord(w) {
			return false
		}
	}
	return true
}

// isWord reports whether a text has the bytes, and as many of them, as a compatible string or a word of a rule.
func isWord(s string) bool {
	if len(s) < 1 || len(s) > api.MaxName {
		return false
	}
	for i := range len(s) {
		if s[i] <= ' ' || s[i] > '~' {
			return false
		}
	}
	return true
}

// ordered reports whether the schemas, and the rules of each one, are ascending.
func ordered(l []api.Schema) bool {
	for _, s := range l {
		if !rulesAscend(s.Rules) {
			return false
		}
	}
	return schemasAscend(l)
}

// schemasAscend reports whether schemas are strictly ascending.
func schemasAscend(l []api.Schema) bool {
	return ascend(l, func(s api.Schema) string { return s.Compatible })
}

// rulesAscend reports whether rules are strictly ascending.
func rulesAscend(l []api.Rule) bool {
	return ascend(l, func(r api.Rule) string { return r.Name })
}

// ascend reports whether the names in a list are strictly ascending.
func ascend[T any](l []T, name func(T) string) bool {
	for i := 1; i < len(l); i++ {
		if name(l[i-1]) >= name(l[i]) {
			return false
		}
	}
	return true
}
