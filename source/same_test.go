package source_test

import (
	"testing"

	"bringup/api"
	"bringup/source"
)

func isSame(t *testing.T, a, b []api.Definition, want bool) {
	t.Helper()
	for _, x := range [][2][]api.Definition{{a, b}, {b, a}} {
		if got := source.Same(x[0], x[1]); got != want {
			t.Errorf("%v and %v: %v", x[0], x[1], got)
		}
	}
}

// example returns definitions of each kind, with parts of each kind.
func example(t *testing.T) []api.Definition {
	t.Helper()
	return read(t, `/include/ "a"; l: / { a; p = <1 &l (2 + 3)>, "s", [6 7], &l; n { }; /delete-property/ a; /delete-node/ n; }; /delete-node/ &l;`)
}

func TestSame(t *testing.T) {
	texts := []string{"", "/ { };", " / { };", "\n/ { };", "/ {  };", "l: / { };", "m: / { };", "&l { };", "&m { };", "/ { }; / { };", "/delete-node/ &l;", "/include/ \"l\";", "/include/ \"&l\";",
		"/ { p; };", "/ { q; };", "/ { p { }; };", "/ { p = <>; };", "/ { p = \"\"; };", "/ { p = []; };", "/ { p = <0>; };", "/ { p = <1>; };", "/ { p = <0 0>; };", "/ { p = <0>, <0>; };", "/ { p = <&l>; };", "/ { p = <&m>; };",
		"/ { p = \"l\"; };", "/ { p = \"m\"; };", "/ { p = &l; };", "/ { p = &m; };", "/ { p = [108]; };", "/ { /delete-node/ p; };", "/ { /delete-property/ p; };"}
	for i, a := range texts {
		for j, b := range texts {
			isSame(t, read(t, a), read(t, b), i == j)
		}
	}
	isSame(t, example(t), example(t), true)
	// What is written in another way at the same places has the same definitions.
	isSame(t, read(t, "/ { p = <0x10 7>; };"), read(t, "/ { p = <16 (7)>; };"), true)
	isSame(t, read(t, "/ { p = \"A\"; };"), read(t, "/ { p = \"\\x41\"; };"), false)
	isSame(t, read(t, "/ { p = \"A\";\n};"), read(t, "/ { p = \"\\x41\";\n};"), true)
}

// TestSameOfEachChange checks that each field of each definition counts.
func TestSameOfEachChange(t *testing.T) {
	changes := []func(d *api.Definition){
		func(d *api.Definition) { d.Kind++ },
		func(d *api.Definition) { d.Kind = -d.Kind },
		func(d *api.Definition) { d.Label += "x" },
		func(d *api.Definition) { d.Name += "x" },
		func(d *api.Definition) { d.Label, d.Name = d.Label+"x"+d.Name, "" },
		func(d *api.Definition) { d.Parts = append(d.Parts, api.Part{}) },
		func(d *api.Definition) { d.Position.File++ },
		func(d *api.Definition) { d.Position.Line++ },
		func(d *api.Definition) { d.Position.Column++ },
	}
	n := len(example(t))
	for i := range n {
		for _, change := range changes {
			l := example(t)
			change(&l[i])
			isSame(t, example(t), l, false)
		}
		l := example(t)
		isSame(t, example(t), append(l[:i], l[i+1:]...), false)
		isSame(t, example(t), append(example(t), example(t)[i]), false)
		if i > 0 {
			l = example(t)
			l[0], l[i] = l[i], l[0]
			isSame(t, example(t), l, false)
		}
	}
}

// TestSameOfEachPart checks that each field of each part and each cell counts.
func TestSameOfEachPart(t *testing.T) {
	changes := []func(p *api.Part){
		func(p *api.Part) { p.Kind++ },
		func(p *api.Part) { p.Text += "\x00" },
		func(p *api.Part) { p.Cells = append(p.Cells, api.Cell{}) },
		func(p *api.Part) { p.Cells = append([]api.Cell{{Value: 1}}, p.Cells...) },
	}
	parts := func() (*api.Definition, []api.Definition) {
		l := example(t)
		for i := range l {
			if len(l[i].Parts) > 0 {
				return &l[i], l
			}
		}
		t.Fatal("there are no parts")
		return nil, nil
	}
	first, _ := parts()
	for i := range first.Parts {
		for _, change := range changes {
			d, l := parts()
			change(&d.Parts[i])
			isSame(t, example(t), l, false)
		}
		d, l := parts()
		d.Parts = append(d.Parts[:i], d.Parts[i+1:]...)
		isSame(t, example(t), l, false)
	}
	for i := range first.Parts[0].Cells {
		d, l := parts()
		d.Parts[0].Cells[i].Value++
		isSame(t, example(t), l, false)
		d, l = parts()
		d.Parts[0].Cells[i].Label += "x"
		isSame(t, example(t), l, false)
		d, l = parts()
		d.Parts[0].Cells = append(d.Parts[0].Cells[:i], d.Parts[0].Cells[i+1:]...)
		isSame(t, example(t), l, false)
	}
}

// TestSameOfOtherLists checks lists that Read does not return, and that nil and an empty list are the same.
func TestSameOfOtherLists(t *testing.T) {
	isSame(t, nil, []api.Definition{}, true)
	isSame(t, nil, []api.Definition{{}}, false)
	isSame(t, []api.Definition{{}}, []api.Definition{{Parts: []api.Part{}}}, true)
	isSame(t, []api.Definition{{}}, []api.Definition{{Parts: []api.Part{{}}}}, false)
	isSame(t, []api.Definition{{Parts: []api.Part{{}}}}, []api.Definition{{Parts: []api.Part{{Cells: []api.Cell{}}}}}, true)
	isSame(t, []api.Definition{{Parts: []api.Part{{}}}}, []api.Definition{{Parts: []api.Part{{Cells: []api.Cell{{}}}}}}, false)
	isSame(t, []api.Definition{{Kind: -1, Name: "\xff"}}, []api.Definition{{Kind: -1, Name: "\xff"}}, true)
	isSame(t, []api.Definition{{Kind: -1, Name: "\xff"}}, []api.Definition{{Kind: -1, Name: "\xfe"}}, false)
}
