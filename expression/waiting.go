package expression

import "bringup/api"

// sign returns the sign that is next, and the empty text if something else is.
func (r *reader) sign() string {
	if r.at < len(r.tokens) && r.tokens[r.at].Kind == api.TokenSign {
		return r.tokens[r.at].Text
	}
	return ""
}

// row returns the signs of a row. Those of all rows are made when the first one is looked for, as most expressions are single numbers.
func (r *reader) row(n int) map[string]operation {
	if r.rows == nil {
		r.rows = rows()
	}
	return r.rows[n]
}

// front reports whether a sign can be in front of an operand.
func (r *reader) front(s string) bool {
	if s == "" {
		return false
	}
	_, ok := r.row(frontRow)[s]
	return ok
}

// between returns the row of a sign that goes on after an operand, and 0 for all others.
func (r *reader) between(s string) int {
	switch s {
	case "":
		return 0
	case "?":
		return choiceRow
	}
	for row := frontRow + 1; row < choiceRow; row++ {
		if _, ok := r.row(row)[s]; ok {
			return row
		}
	}
	return 0
}

// number reads a number.
func (r *reader) number(n int) {
	r.deep = r.deep || r.brackets > api.MaxDepth
	r.outOfRange = r.outOfRange || n < 0 || n > api.MaxCell
	r.values = append(r.values, uint32(n))
	r.at++
}

// wait reads a sign that must wait.
func (r *reader) wait(s string, row int) {
	r.waiting = append(r.waiting, pending{sign: s, row: row})
	r.at++
}

// take takes away what waits last.
func (r *reader) take() pending {
	n := len(r.waiting) - 1
	p := r.waiting[n]
	r.waiting = r.waiting[:n]
	return p
}

// finish computes what waits last, as far as it binds at least as tightly as a row.
func (r *reader) finish(row int) {
	for n := len(r.waiting); n > 0 && r.waiting[n-1].row <= row; n-- {
		if p := r.take(); p.row == choiceRow {
			r.choose()
		} else {
			r.compute(p)
		}
	}
}

// choose puts the chosen one of two values in the place of three.
func (r *reader) choose() {
	n := len(r.values) - 3
	chosen := r.values[n+2]
	if r.values[n] != 0 {
		chosen = r.values[n+1]
	}
	r.values = append(r.values[:n], chosen)
}

// compute puts the value of a sign in the place of its two operands.
func (r *reader) compute(p pending) {
	n := len(r.values) - 2
	a, b := r.values[n], r.values[n+1]
	if b == 0 && divides(p.sign) {
		r.divided = true
		// Any other divisor will do: what has this error has no value.
		b = 1
	}
	r.values = append(r.values[:n], r.row(p.row)[p.sign](a, b))
}
