package expression

import "bringup/api"

// pending is a sign that waits for its last operand, or an open bracket.
type pending struct {
	sign string
	row  int
}

// reader reads an expression token by token. What is not complete waits in lists, not in calls within calls, so that an expression may be nested as deeply as it likes.
type reader struct {
	tokens   []api.Token
	at       int
	rows     []map[string]operation
	values   []uint32
	waiting  []pending
	brackets int

	// Errors that count only if the syntax is right.
	deep, outOfRange, divided bool
}

// read reads, from an index on, what a method of the reader reads. The method reports whether the syntax is right.
func read(l []api.Token, at int, what func(*reader) bool) (int, int, api.Errno) {
	if at < 0 || at >= len(l) {
		return 0, 0, api.ErrRange
	}
	r := reader{tokens: l, at: at}
	if !what(&r) {
		return 0, 0, api.ErrSyntax
	}
	if e := r.fault(); e != api.OK {
		return 0, 0, e
	}
	return int(r.values[0]), r.at, api.OK
}

// fault returns the first error of an expression whose syntax is right.
func (r *reader) fault() api.Errno {
	switch {
	case r.deep:
		return api.ErrLimit
	case r.outOfRange:
		return api.ErrRange
	case r.divided:
		return api.ErrDivide
	}
	return api.OK
}

// primary reads a number or an expression in brackets.
func (r *reader) primary() bool {
	if r.front(r.sign()) || !r.operand() {
		return false
	}
	for len(r.waiting) > 0 {
		if !r.follow() {
			return false
		}
	}
	return true
}

// expression reads an expression as far as it goes.
func (r *reader) expression() bool {
	if !r.operand() {
		return false
	}
	for len(r.waiting) > 0 || r.between(r.sign()) != 0 {
		if !r.follow() {
			return false
		}
	}
	return true
}

// operand reads an operand up to its number; signs in front of it and open brackets wait.
func (r *reader) operand() bool {
	for r.at < len(r.tokens) {
		t, s := r.tokens[r.at], r.sign()
		switch {
		case t.Kind == api.TokenNumber:
			r.number(t.Value)
			return true
		case s == "(":
			r.brackets++
			r.wait(s, openRow)
		case r.front(s):
			r.values = append(r.values, 0)
			r.wait(s, frontRow)
		default:
			return false
		}
	}
	return false
}

// follow reads what follows an operand: a sign with the operand after it, or the end of what is open.
func (r *reader) follow() bool {
	s := r.sign()
	row := r.between(s)
	switch row {
	case 0:
		r.finish(choiceRow)
		return r.end(s)
	case choiceRow:
		// A choice before this one goes on waiting, since this one belongs to its last operand.
		r.finish(choiceRow - 1)
		r.wait(s, openRow)
	default:
		r.finish(row)
		r.wait(s, row)
	}
	return r.operand()
}

// end reads the sign that must end what is open, if something is.
func (r *reader) end(s string) bool {
	if len(r.waiting) == 0 {
		return true
	}
	open := r.take().sign
	switch {
	case open == "(" && s == ")":
		r.brackets--
		r.at++
		return true
	case open == "?" && s == ":":
		r.wait(s, choiceRow)
		return r.operand()
	}
	return false
}
