package schema

import (
	"strconv"
	"strings"

	"bringup/api"
)

// The words of lines, beside those for the kinds.
const (
	wordSchema   = "schema"
	wordClosed   = "closed"
	wordRequired = "required"
	signRange    = ".."
	signCount    = "x"
)

// kindWords are the words for the kinds of rules.
var kindWords = [...]string{
	api.RuleAny:    "any",
	api.RuleEmpty:  "empty",
	api.RuleCells:  "cells",
	api.RuleWord:   "word",
	api.RuleText:   "text",
	api.RuleHandle: "handle",
}

// lines returns the lines of valid schemas.
func lines(l []api.Schema) string {
	var out strings.Builder
	for _, s := range l {
		out.WriteString(schemaLine(s) + "\n")
		for _, r := range s.Rules {
			out.WriteString(ruleLine(r) + "\n")
		}
	}
	return out.String()
}

// schemaLine returns the line with which a schema begins, without its line feed.
func schemaLine(s api.Schema) string {
	line := wordSchema + " " + s.Compatible
	if s.Closed {
		line += " " + wordClosed
	}
	return line
}

// ruleLine returns the line of a valid rule, without its line feed.
func ruleLine(r api.Rule) string {
	words := []string{r.Name}
	if r.Required {
		words = append(words, wordRequired)
	}
	words = append(words, kindWords[r.Kind])
	if r.Kind == api.RuleCells {
		words = append(words, strconv.Itoa(r.Low)+signRange+strconv.Itoa(r.High))
	}
	if r.Count != 0 {
		words = append(words, signCount+strconv.Itoa(r.Count))
	}
	return "\t" + strings.Join(append(words, r.Words...), " ")
}
