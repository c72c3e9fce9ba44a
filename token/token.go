// Package token is layer 1: see shared/doc/01-token.md.
package token

import "bringup/api"

// Read returns the tokens of a text, or the first error with its position.
func Read(text string, file int) ([]api.Token, api.Position, api.Errno) {
	if len(text) > api.MaxText {
		return nil, api.Position{}, api.ErrLimit
	}
	r := reader{rest: text, place: api.Position{File: file, Line: 1, Column: 1}}
	var tokens []api.Token
	for range api.MaxTokens {
		t, e := r.next()
		if e != api.OK {
			return nil, r.place, e
		}
		tokens = append(tokens, t)
		if t.Kind == api.TokenEnd {
			return tokens, api.Position{}, api.OK
		}
	}
	// A comment that does not end comes before the token that is one too many.
	if e := r.separate(); e != api.OK {
		return nil, r.place, e
	}
	return nil, r.place, api.ErrLimit
}

// Name reports whether a text is a name of a node.
func Name(s string) bool {
	return consists(s, nameCharacter)
}

// Label reports whether a text is a label.
func Label(s string) bool {
	return consists(s, wordCharacter)
}

// consists reports whether a text begins as a name does, is as long as a name may be, and has only characters of a class.
func consists(s string, class func(byte) bool) bool {
	return s != "" && len(s) <= api.MaxName && first(s[0]) && lead(s, class) == len(s)
}
