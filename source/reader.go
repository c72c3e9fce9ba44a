package source

import "bringup/api"

// reader reads definitions token by token. With an error it is left at the token that has it; as nothing reads the token for the end of the text, there is always one.
type reader struct {
	tokens      []api.Token
	at          int
	bodies      int // how many are open
	definitions []api.Definition
}

// token returns the token that is next.
func (r *reader) token() api.Token {
	return r.tokens[r.at]
}

// isSign reports whether a token is a sign.
func isSign(t api.Token, sign string) bool {
	return t.Kind == api.TokenSign && t.Text == sign
}

// isWord reports whether a token is a word between slashes.
func isWord(t api.Token, word string) bool {
	return t.Kind == api.TokenWord && t.Text == word
}

// passes reads a sign, if it is next.
func (r *reader) passes(sign string) bool {
	if !isSign(r.token(), sign) {
		return false
	}
	r.at++
	return true
}

// must reads a sign.
func (r *reader) must(sign string) api.Errno {
	if !r.passes(sign) {
		return api.ErrSyntax
	}
	return api.OK
}

// take reads a token of a kind, and returns its text, which must be valid.
func (r *reader) take(kind int, valid func(string) bool) (string, api.Errno) {
	t := r.token()
	switch {
	case t.Kind != kind:
		return "", api.ErrSyntax
	case !valid(t.Text):
		return "", api.ErrInvalid
	}
	r.at++
	return t.Text, api.OK
}

// anything says that every text is valid.
func anything(string) bool { return true }
