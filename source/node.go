package source

import (
	"bringup/api"
	"bringup/token"
	"bringup/tree"
)

// top reads what stands at the top, with its ';'.
func (r *reader) top() api.Errno {
	switch t := r.token(); {
	case isWord(t, "include"):
		return r.command(api.DefInclude, func() (string, api.Errno) {
			return r.take(api.TokenString, anything)
		})
	case isWord(t, "delete-node"):
		return r.command(api.DefRemove, r.reference)
	case t.Kind == api.TokenRef:
		return r.node(r.reference)
	}
	return r.node(r.root)
}

// member reads what stands in a body, with its ';'.
func (r *reader) member() api.Errno {
	switch t := r.token(); {
	case isWord(t, "delete-property"):
		return r.command(api.DefDelete, r.propertyName)
	case isWord(t, "delete-node"):
		return r.command(api.DefRemove, r.nodeName)
	case t.Kind == api.TokenName && !isSign(r.tokens[r.at+1], "{"):
		return r.property()
	}
	return r.node(r.nodeName)
}

// root reads the '/' that is the name of the root.
func (r *reader) root() (string, api.Errno) {
	return "/", r.must("/")
}

// reference reads a reference, and returns it as the name of the node that has the label.
func (r *reader) reference() (string, api.Errno) {
	label, e := r.take(api.TokenRef, token.Label)
	return "&" + label, e
}

func (r *reader) nodeName() (string, api.Errno) {
	return r.take(api.TokenName, token.Name)
}

func (r *reader) propertyName() (string, api.Errno) {
	return r.take(api.TokenName, tree.Property)
}

// command reads a word between slashes, the name that it is about, and ';'.
func (r *reader) command(kind int, name func() (string, api.Errno)) api.Errno {
	d := api.Definition{Kind: kind, Position: r.token().Position}
	r.at++
	var e api.Errno
	if d.Name, e = name(); e != api.OK {
		return e
	}
	r.definitions = append(r.definitions, d)
	return r.must(";")
}

// node reads a node: a label, if there is one, its name, its body and ';'.
func (r *reader) node(name func() (string, api.Errno)) api.Errno {
	d := api.Definition{Kind: api.DefNode, Position: r.token().Position}
	var e api.Errno
	if r.token().Kind == api.TokenLabel {
		if d.Label, e = r.take(api.TokenLabel, token.Label); e != api.OK {
			return e
		}
	}
	if d.Name, e = name(); e != api.OK {
		return e
	}
	r.definitions = append(r.definitions, d)
	if e := r.body(); e != api.OK {
		return e
	}
	return r.must(";")
}

// body reads a body, and ends its node.
func (r *reader) body() api.Errno {
	// The body of the root comes before the levels below it, so there may be one more than these.
	if isSign(r.token(), "{") && r.bodies > api.MaxDepth {
		return api.ErrLimit
	}
	if e := r.must("{"); e != api.OK {
		return e
	}
	r.bodies++
	for !isSign(r.token(), "}") {
		if e := r.member(); e != api.OK {
			return e
		}
	}
	r.bodies--
	r.definitions = append(r.definitions, api.Definition{Kind: api.DefEnd, Position: r.token().Position})
	return r.must("}")
}
