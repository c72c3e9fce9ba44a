package source

import (
	"bringup/api"
	"bringup/expression"
	"bringup/token"
)

// property reads a property with its parts and ';'.
func (r *reader) property() api.Errno {
	d := api.Definition{Kind: api.DefProperty, Position: r.token().Position}
	var e api.Errno
	if d.Name, e = r.propertyName(); e != api.OK {
		return e
	}
	for more := r.passes("="); more; more = r.passes(",") {
		p, e := r.part()
		if e != api.OK {
			return e
		}
		d.Parts = append(d.Parts, p)
	}
	r.definitions = append(r.definitions, d)
	return r.must(";")
}

// part reads a part of a property's value.
func (r *reader) part() (api.Part, api.Errno) {
	var p api.Part
	var e api.Errno
	switch {
	case r.passes("<"):
		p.Kind = api.PartCells
		p.Cells, e = r.cells()
	case r.passes("["):
		p.Kind = api.PartBytes
		p.Text, e = r.numbers()
	case r.token().Kind == api.TokenString:
		p.Kind = api.PartString
		p.Text, e = r.take(api.TokenString, anything)
	default:
		p.Kind = api.PartPath
		p.Text, e = r.take(api.TokenRef, token.Label)
	}
	return p, e
}

// cells reads cells and the '>' after them.
func (r *reader) cells() ([]api.Cell, api.Errno) {
	var out []api.Cell
	for !r.passes(">") {
		c, e := r.cell()
		if e != api.OK {
			return nil, e
		}
		out = append(out, c)
	}
	return out, api.OK
}

// cell reads a cell.
func (r *reader) cell() (api.Cell, api.Errno) {
	if r.token().Kind == api.TokenRef {
		label, e := r.take(api.TokenRef, token.Label)
		return api.Cell{Label: label}, e
	}
	value, next, e := expression.Primary(r.tokens, r.at)
	if e == api.OK {
		r.at = next
	}
	return api.Cell{Value: value}, e
}

// numbers reads the numbers of bytes and the ']' after them, and returns these bytes.
func (r *reader) numbers() (string, api.Errno) {
	var out []byte
	for !r.passes("]") {
		switch t := r.token(); {
		case t.Kind != api.TokenNumber:
			return "", api.ErrSyntax
		case t.Value > 255:
			return "", api.ErrRange
		default:
			out = append(out, byte(t.Value))
		}
		r.at++
	}
	return string(out), api.OK
}
