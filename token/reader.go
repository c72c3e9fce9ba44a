package token

import (
	"strings"

	"bringup/api"
)

// reader is what is left of a text, and the place at which it begins.
type reader struct {
	rest  string
	place api.Position
}

// next takes the next token. With an error the reader is left at the place of the error.
func (r *reader) next() (api.Token, api.Errno) {
	if e := r.separate(); e != api.OK {
		return api.Token{}, e
	}
	t, n, e := cut(r.rest)
	if e != api.OK {
		return api.Token{}, e
	}
	t.Position = r.place
	r.pass(n)
	return t, api.OK
}

// separate passes over all that separates tokens.
func (r *reader) separate() api.Errno {
	for {
		n, e := separator(r.rest)
		if n == 0 || e != api.OK {
			return e
		}
		r.pass(n)
	}
}

// pass goes forward by n bytes.
func (r *reader) pass(n int) {
	for i := range n {
		r.place.Column++
		if r.rest[i] == '\n' {
			r.place.Line++
			r.place.Column = 1
		}
	}
	r.rest = r.rest[n:]
}

// separator returns how many bytes the comment or the space has with which a text begins.
func separator(text string) (int, api.Errno) {
	switch {
	case strings.HasPrefix(text, "//"):
		return lead(text, inLine), api.OK
	case strings.HasPrefix(text, "/*"):
		// The two bytes of '/*' are left out, so that '/*/' does not end itself.
		n := strings.Index(text[2:], "*/")
		if n < 0 {
			return 0, api.ErrEnd
		}
		return n + 4, api.OK
	}
	return lead(text, space), api.OK
}
