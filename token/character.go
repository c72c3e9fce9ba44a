package token

import "strings"

func letter(c byte) bool {
	return 'a' <= c && c <= 'z' || 'A' <= c && c <= 'Z'
}

func digit(c byte) bool {
	return '0' <= c && c <= '9'
}

// first reports whether a character can begin names of nodes, labels and references.
func first(c byte) bool {
	return letter(c) || c == '_'
}

func wordCharacter(c byte) bool {
	return first(c) || digit(c)
}

func nameCharacter(c byte) bool {
	return wordCharacter(c) || strings.IndexByte(",.+-?#@", c) >= 0
}

// slashed reports whether a character can be in a word between slashes.
func slashed(c byte) bool {
	return 'a' <= c && c <= 'z' || c == '-'
}

func space(c byte) bool {
	return c == ' ' || c == '\t' || c == '\r' || c == '\n'
}

func inLine(c byte) bool {
	return c != '\n'
}

// lead returns how many characters of a class a text begins with.
func lead(text string, class func(byte) bool) int {
	for i := range len(text) {
		if !class(text[i]) {
			return i
		}
	}
	return len(text)
}

// digitValue returns the value of a hexadecimal digit, and 16 for all other characters.
func digitValue(c byte) int {
	switch {
	case digit(c):
		return int(c - '0')
	case 'a' <= c && c <= 'f':
		return int(c-'a') + 10
	case 'A' <= c && c <= 'F':
		return int(c-'A') + 10
	}
	return 16
}
