package print

import "strings"

// writable reports whether a value can be written as strings: texts that are not empty, each with a zero byte behind it.
func writable(v string) bool {
	last := byte(0)
	for i := range len(v) {
		c := v[i]
		if c == 0 && last == 0 || c != 0 && (c < ' ' || c > '~') {
			return false
		}
		last = c
	}
	return v != "" && last == 0
}

// quoted returns a text as a string of the source language.
func quoted(s string) string {
	s = strings.ReplaceAll(s, `\`, `\\`)
	return `"` + strings.ReplaceAll(s, `"`, `\"`) + `"`
}

// join writes the elements of a list, with a text between each two.
func join[T any](l []T, between string, write func(T) string) string {
	var out strings.Builder
	for i, x := range l {
		if i > 0 {
			out.WriteString(between)
		}
		out.WriteString(write(x))
	}
	return out.String()
}
