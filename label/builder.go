package label

import (
	"strings"

	"bringup/api"
)

// builder goes through definitions, and makes nodes of them.
type builder struct {
	root   *node
	nodes  int     // how many there are
	open   []*node // from the outermost one to the innermost one
	labels map[string]*node
}

func newBuilder() *builder {
	return &builder{root: newNode(nil, ""), nodes: 1, labels: map[string]*node{}}
}

// build goes through all definitions.
func (b *builder) build(l []api.Definition) (api.Position, api.Errno) {
	for _, d := range l {
		e := b.check(d)
		if e == api.OK {
			e = b.define(d)
		}
		if e != api.OK {
			return d.Position, e
		}
	}
	if len(b.open) > 0 {
		return api.Position{}, api.ErrEnd
	}
	b.forget()
	return api.Position{}, api.OK
}

// forget deletes the labels of nodes that are gone. It is done once for all of them: to go through the labels whenever a node is removed would take for ever with long lists.
func (b *builder) forget() {
	for label, n := range b.labels {
		if n.gone {
			delete(b.labels, label)
		}
	}
}

// define does what a definition says.
func (b *builder) define(d api.Definition) api.Errno {
	switch d.Kind {
	case api.DefNode:
		return b.begin(d)
	case api.DefProperty:
		return b.set(d)
	case api.DefDelete:
		return b.unset(d.Name)
	case api.DefRemove:
		return b.remove(d.Name)
	}
	b.open = b.open[:len(b.open)-1]
	return api.OK
}

// inner returns the innermost open node, or nil while none is open.
func (b *builder) inner() *node {
	if len(b.open) == 0 {
		return nil
	}
	return b.open[len(b.open)-1]
}

// labelled returns the node that a label stands for, or nil. Labels of nodes that are gone stand for nothing, although they are only forgotten at the end.
func (b *builder) labelled(label string) *node {
	if n := b.labels[label]; n != nil && !n.gone {
		return n
	}
	return nil
}

// named returns the node that a name means, or nil: a child of the innermost open node, or at the top the root or what a label stands for.
func (b *builder) named(name string) *node {
	if in := b.inner(); in != nil {
		return in.children[name]
	}
	if label, ok := strings.CutPrefix(name, "&"); ok {
		return b.labelled(label)
	}
	return b.root
}

// begin opens a node, which is made if it is not there, and gives it its label.
func (b *builder) begin(d api.Definition) api.Errno {
	n, in := b.named(d.Name), b.inner()
	if n == nil && in == nil {
		return api.ErrDangling
	}
	if other := b.labelled(d.Label); other != nil && other != n {
		return api.ErrDuplicate
	}
	if n == nil {
		if e := b.addable(in); e != api.OK {
			return e
		}
		n = newNode(in, d.Name)
		in.children[d.Name] = n
		b.nodes++
	}
	if d.Label != "" {
		b.labels[d.Label] = n
	}
	b.open = append(b.open, n)
	return api.OK
}

// addable returns the first error that one more child of a node has.
func (b *builder) addable(parent *node) api.Errno {
	switch {
	case parent.depth >= api.MaxDepth:
		return api.ErrRange
	case b.nodes >= api.MaxNodes:
		return api.ErrLimit
	}
	return api.OK
}

// set gives the innermost open node a property, in the place of an earlier one with its name.
func (b *builder) set(d api.Definition) api.Errno {
	l := b.inner().properties
	if _, ok := l[d.Name]; !ok && len(l) >= api.MaxProperties {
		return api.ErrLimit
	}
	l[d.Name] = d
	return api.OK
}

// unset deletes a property of the innermost open node.
func (b *builder) unset(name string) api.Errno {
	l := b.inner().properties
	if _, ok := l[name]; !ok {
		return api.ErrUnknown
	}
	delete(l, name)
	return api.OK
}

// remove removes a node, with all that is below it.
func (b *builder) remove(name string) api.Errno {
	n := b.named(name)
	switch {
	case n == nil && b.inner() == nil:
		return api.ErrDangling
	case n == nil:
		return api.ErrUnknown
	case n == b.root:
		return api.ErrInvalid
	}
	delete(n.parent.children, n.name)
	n.walk(func(below *node) {
		below.gone = true
		b.nodes--
	})
	return api.OK
}
