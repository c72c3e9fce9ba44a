package schema

import (
	"strconv"
	"strings"

	"bringup/api"
)

// add returns schemas with what one more line says, which is given without its line feed.
func add(l []api.Schema, line string) ([]api.Schema, api.Errno) {
	if strings.HasPrefix(line, "\t") {
		return addRule(l, line)
	}
	return addSchema(l, line)
}

// addSchema adds the schema that begins with a line.
func addSchema(l []api.Schema, line string) ([]api.Schema, api.Errno) {
	s, ok := readSchema(line)
	if !ok {
		return nil, api.ErrSyntax
	}
	l = append(l, s)
	switch {
	case !schemasAscend(l):
		return nil, api.ErrOrder
	case len(l) > api.MaxSchemas:
		return nil, api.ErrLimit
	}
	return l, api.OK
}

// addRule adds the rule of a line to the last schema.
func addRule(l []api.Schema, line string) ([]api.Schema, api.Errno) {
	r, ok := readRule(line)
	if !ok || len(l) == 0 {
		return nil, api.ErrSyntax
	}
	last := &l[len(l)-1]
	last.Rules = append(last.Rules, r)
	switch {
	case !rulesAscend(last.Rules):
		return nil, api.ErrOrder
	case len(last.Rules) > api.MaxRules:
		return nil, api.ErrLimit
	}
	return l, api.OK
}

// readSchema returns the schema that begins with a line, and whether one does.
func readSchema(line string) (api.Schema, bool) {
	rest, ok := strings.CutPrefix(line, wordSchema+" ")
	name, closed := strings.CutSuffix(rest, " "+wordClosed)
	return api.Schema{Compatible: name, Closed: closed}, ok && isWord(name)
}

// readRule returns the rule of a line, and whether it is one.
func readRule(line string) (api.Rule, bool) {
	words := strings.Split(line[1:], " ")
	next := func() string {
		if len(words) == 0 {
			return ""
		}
		w := words[0]
		words = words[1:]
		return w
	}
	r := api.Rule{Name: next()}
	w := next()
	if w == wordRequired {
		r.Required = true
		w = next()
	}
	r.Kind = kindOf(w)
	switch r.Kind {
	case api.RuleCells:
		low, high, _ := strings.Cut(next(), signRange)
		r.Low, r.High = number(low), number(high)
		r.Count = count(next())
	case api.RuleText, api.RuleHandle:
		r.Count = count(next())
	case api.RuleWord:
		r.Words = words
	}
	// What was passed over above, and each number that is written in another way, makes this differ.
	return r, isRule(r) && ruleLine(r) == line
}

// kindOf returns the kind with a word, or 0 if there is none.
func kindOf(word string) int {
	for kind, w := range kindWords {
		if w == word {
			return kind
		}
	}
	return 0
}

// count returns the number in the word for a count, or 0 if there is none.
func count(word string) int {
	return number(strings.TrimPrefix(word, signCount))
}

// number returns the number in a text, or 0 if it is none.
func number(s string) int {
	n, e := strconv.Atoi(s)
	if e != nil {
		return 0
	}
	return n
}
