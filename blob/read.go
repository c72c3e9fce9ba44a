package blob

import (
	"bytes"
	"strings"

	"bringup/api"
)

// reader reads a structure up to its first error. Its functions report whether there was none.
type reader struct {
	b     []byte // up to the end of the structure
	at    int    // the index of what is read next
	names string
	nodes []api.Node
	open  int // the innermost node that has not ended, or -1
	level int // how many nodes have not ended
	place int
	e     api.Errno
}

// newReader returns a reader of bytes with a right header.
func newReader(b []byte) *reader {
	end := headerBytes + number(b, structureAt)
	return &reader{b: b[:end], at: headerBytes, names: string(b[end:]), open: -1}
}

// fail keeps an error with its place.
func (r *reader) fail(place int, e api.Errno) bool {
	r.place, r.e = place, e
	return false
}

// read reads all of the structure.
func (r *reader) read() bool {
	if !r.expect(nodeBegins) || !r.begin() {
		return false
	}
	for r.open >= 0 {
		if !r.element() {
			return false
		}
	}
	if !r.expect(structureEnds) {
		return false
	}
	if r.at < len(r.b) {
		return r.fail(r.at, api.ErrSyntax)
	}
	return true
}

// element reads what comes next in the innermost node.
func (r *reader) element() bool {
	n, ok := r.number()
	if !ok {
		return false
	}
	hasChild := r.open < len(r.nodes)-1
	switch {
	case n == nodeBegins:
		return r.begin()
	case n == nodeEnds:
		r.open = r.nodes[r.open].Parent
		r.level--
		return true
	case n == propertyComes && !hasChild:
		return r.property()
	}
	return r.failNumber(api.ErrSyntax)
}

// begin reads the name of a node behind the number with which it begins.
func (r *reader) begin() bool {
	if len(r.nodes) >= api.MaxNodes || r.level > api.MaxDepth {
		return r.failNumber(api.ErrLimit)
	}
	name, ok := r.text()
	if !ok {
		return false
	}
	r.nodes = append(r.nodes, api.Node{Parent: r.open, Name: name})
	r.open = len(r.nodes) - 1
	r.level++
	return true
}

// property reads a property of the innermost node behind the number that says that it comes.
func (r *reader) property() bool {
	length, ok := r.number()
	if !ok {
		return false
	}
	if length > api.MaxValue {
		return r.failNumber(api.ErrLimit)
	}
	place, ok := r.number()
	if !ok {
		return false
	}
	name, ok := r.name(place)
	if !ok {
		return r.failNumber(api.ErrRange)
	}
	value, ok := r.padded(length, 0)
	if !ok {
		return false
	}
	n := &r.nodes[r.open]
	n.Properties = append(n.Properties, api.Property{Name: name, Value: value})
	return true
}

// number reads a number.
func (r *reader) number() (int, bool) {
	// Both indices are multiples of the bytes of a number, so that one fits if there is anything.
	if r.at == len(r.b) {
		return 0, r.fail(r.at, api.ErrEnd)
	}
	r.at += numberBytes
	return number(r.b, r.at-numberBytes), true
}

// failNumber keeps an error of the number that was read last.
func (r *reader) failNumber(e api.Errno) bool {
	return r.fail(r.at-numberBytes, e)
}

// expect reads a number that can only be this one.
func (r *reader) expect(want int) bool {
	n, ok := r.number()
	if ok && n != want {
		return r.failNumber(api.ErrSyntax)
	}
	return ok
}

// text reads a text.
func (r *reader) text() (string, bool) {
	length := bytes.IndexByte(r.b[r.at:], 0)
	if length < 0 {
		return "", r.fail(len(r.b), api.ErrEnd)
	}
	return r.padded(length, 1)
}

// padded reads so many bytes, behind which there are at least so many zero bytes, up to where the next number can stand.
func (r *reader) padded(length, zeros int) (string, bool) {
	start, end := r.at, r.at+length
	r.at = aligned(end + zeros)
	if r.at > len(r.b) {
		return "", r.fail(len(r.b), api.ErrEnd)
	}
	for _, c := range r.b[end:r.at] {
		if c != 0 {
			return "", r.fail(start, api.ErrSyntax)
		}
	}
	return string(r.b[start:end]), true
}

// name returns the string that begins at a place of the strings, and whether one does.
func (r *reader) name(place int) (string, bool) {
	if place >= len(r.names) || place > 0 && r.names[place-1] != 0 {
		return "", false
	}
	name, _, _ := strings.Cut(r.names[place:], "\x00")
	return name, true
}
