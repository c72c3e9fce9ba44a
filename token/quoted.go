package token

import "bringup/api"

// cutString returns the string with which a text begins.
func cutString(text string) (api.Token, int, api.Errno) {
	var out []byte
	for at := 1; !ended(text, at); {
		switch text[at] {
		case '"':
			return api.Token{Kind: api.TokenString, Text: string(out)}, at + 1, api.OK
		case '\\':
			c, n, e := escape(text[at:])
			if e != api.OK {
				return api.Token{}, 0, e
			}
			out = append(out, c)
			at += n
		default:
			out = append(out, text[at])
			at++
		}
	}
	return api.Token{}, 0, api.ErrEnd
}

// ended reports whether the text or its line has no byte at an index.
func ended(text string, at int) bool {
	return at >= len(text) || text[at] == '\n'
}

// escape returns the byte for the escape with which a text begins, and how many bytes the escape has.
func escape(text string) (byte, int, api.Errno) {
	if ended(text, 1) {
		return 0, 0, api.ErrEnd
	}
	switch c := text[1]; c {
	case 'n':
		return '\n', 2, api.OK
	case 't':
		return '\t', 2, api.OK
	case '"', '\\':
		return c, 2, api.OK
	case 'x':
		return escapeNumber(text)
	}
	return 0, 0, api.ErrSyntax
}

// escapeNumber does so for an escape with two hexadecimal digits.
func escapeNumber(text string) (byte, int, api.Errno) {
	value := 0
	for i := range 2 {
		if ended(text, 2+i) {
			return 0, 0, api.ErrEnd
		}
		d := digitValue(text[2+i])
		if d == 16 {
			return 0, 0, api.ErrSyntax
		}
		value = value*16 + d
	}
	return byte(value), 4, api.OK
}
