package label_test

import (
	"testing"

	"bringup/api"
	"bringup/label"
)

func begin(label, name string) api.Definition {
	return api.Definition{Kind: api.DefNode, Label: label, Name: name}
}

func end() api.Definition { return api.Definition{Kind: api.DefEnd} }

func prop(name string, parts ...api.Part) api.Definition {
	return api.Definition{Kind: api.DefProperty, Name: name, Parts: parts}
}

func unset(name string) api.Definition { return api.Definition{Kind: api.DefDelete, Name: name} }

func remove(name string) api.Definition { return api.Definition{Kind: api.DefRemove, Name: name} }

func cells(l ...api.Cell) api.Part { return api.Part{Kind: api.PartCells, Cells: l} }

func num(n int) api.Cell { return api.Cell{Value: n} }

func to(label string) api.Cell { return api.Cell{Label: label} }

func text(s string) api.Part { return api.Part{Kind: api.PartString, Text: s} }

func bytes(s string) api.Part { return api.Part{Kind: api.PartBytes, Text: s} }

func path(label string) api.Part { return api.Part{Kind: api.PartPath, Text: label} }

// place is that of the definition with an index.
func place(i int) api.Position { return api.Position{File: 7, Line: i + 1, Column: 2*i + 5} }

// placed returns definitions with different positions.
func placed(l ...api.Definition) []api.Definition {
	for i := range l {
		l[i].Position = place(i)
	}
	return l
}

// fails checks that definitions have this error at this place, and nothing else.
func fails(t *testing.T, l []api.Definition, p api.Position, want api.Errno) {
	t.Helper()
	x, labels, gotPlace, e := label.Build(l)
	if e != want || gotPlace != p || len(x.Nodes)+len(labels) != 0 {
		t.Errorf("%.500v: error %d at %v with %d nodes and %d labels, not %d at %v", l, e, gotPlace, len(x.Nodes), len(labels), want, p)
	}
}

// stops checks that the last definition has this error.
func stops(t *testing.T, want api.Errno, l ...api.Definition) {
	t.Helper()
	fails(t, placed(l...), place(len(l)-1), want)
	// What comes after it does not matter.
	l = append(l, api.Definition{Kind: -1}, end(), remove("&none"))
	fails(t, placed(l...), place(len(l)-4), want)
}

// failsAt checks the error of the definitions of a text.
func failsAt(t *testing.T, s string, line, column int, want api.Errno) {
	t.Helper()
	p := api.Position{File: 3, Line: line, Column: column}
	if line == 0 {
		p = api.Position{}
	}
	fails(t, read(t, s), p, want)
}
