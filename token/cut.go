package token

import (
	"strings"

	"bringup/api"
)

const signs = "{}()<>[];=,+-*/%&|^~!?:"

// cut returns the token with which a text begins, without its position, and how many bytes it has.
func cut(text string) (api.Token, int, api.Errno) {
	if text == "" {
		return api.Token{Kind: api.TokenEnd}, 0, api.OK
	}
	switch c := text[0]; {
	case first(c) || c == '#':
		return cutName(text)
	case digit(c):
		return cutNumber(text)
	case c == '"':
		return cutString(text)
	case c == '&' && len(text) > 1 && first(text[1]):
		n := 1 + lead(text[1:], wordCharacter)
		return api.Token{Kind: api.TokenRef, Text: text[1:n]}, n, api.OK
	}
	if n := wordLength(text); n > 0 {
		return api.Token{Kind: api.TokenWord, Text: text[1 : n-1]}, n, api.OK
	}
	if n := signLength(text); n > 0 {
		return api.Token{Kind: api.TokenSign, Text: text[:n]}, n, api.OK
	}
	return api.Token{}, 0, api.ErrCharacter
}

// cutName returns the name or the label with which a text begins.
func cutName(text string) (api.Token, int, api.Errno) {
	n := lead(text, nameCharacter)
	if n == len(text) || text[n] != ':' {
		return api.Token{Kind: api.TokenName, Text: text[:n]}, n, api.OK
	}
	if lead(text, wordCharacter) < n {
		return api.Token{}, 0, api.ErrSyntax
	}
	return api.Token{Kind: api.TokenLabel, Text: text[:n]}, n + 1, api.OK
}

// wordLength returns the length of the word between slashes with which a text begins, and 0 if there is none.
func wordLength(text string) int {
	if text[0] != '/' {
		return 0
	}
	n := 1 + lead(text[1:], slashed)
	if n == 1 || n == len(text) || text[n] != '/' {
		return 0
	}
	return n + 1
}

// signLength returns the length of the sign with which a text begins, and 0 if there is none.
func signLength(text string) int {
	if len(text) > 1 {
		switch text[:2] {
		case "<<", ">>", "<=", ">=", "==", "!=", "&&", "||":
			return 2
		}
	}
	if strings.IndexByte(signs, text[0]) >= 0 {
		return 1
	}
	return 0
}
