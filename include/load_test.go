package include_test

import (
	"slices"
	"strings"
	"testing"

	"bringup/api"
	"bringup/include"
	"bringup/source"
)

// set returns files from names and texts that follow each other.
func set(l ...string) []api.File {
	var out []api.File
	for i := 0; i < len(l); i += 2 {
		out = append(out, api.File{Name: l[i], Text: l[i+1]})
	}
	return out
}

// short returns files as they can be printed.
func short(files []api.File) []api.File {
	out := slices.Clone(files)
	for i := range out {
		out[i].Text = out[i].Text[:min(80, len(out[i].Text))]
	}
	return out
}

// loaded returns the definitions of files that have no error.
func loaded(t *testing.T, files []api.File, main string) []api.Definition {
	t.Helper()
	l, p, e := include.Load(files, main)
	if e != api.OK || p != (api.Position{}) {
		t.Errorf("%q of %q: error %d at %v", main, short(files), e, p)
	}
	return l
}

// piece returns definitions that a file has: those of its text on its own, from one up to another one.
func piece(t *testing.T, files []api.File, file, from, to int) []api.Definition {
	t.Helper()
	l, p, e := source.Read(files[file].Text, file)
	if e != api.OK {
		t.Fatalf("%q: error %d at %v", files[file].Text, e, p)
	}
	return l[from:to]
}

// loads checks that what is loaded are these pieces of files, each one with the index of a file and the indices of its definitions.
func loads(t *testing.T, files []api.File, main string, pieces ...[3]int) {
	t.Helper()
	var want []api.Definition
	for _, p := range pieces {
		want = append(want, piece(t, files, p[0], p[1], p[2])...)
	}
	if got := loaded(t, files, main); !source.Same(got, want) {
		t.Errorf("%q of %q: %v, not %v", main, short(files), got, want)
	}
}

// reads checks the names of the files that are read.
func reads(t *testing.T, files []api.File, main string, want ...string) {
	t.Helper()
	got, e := include.Files(files, main)
	if e != api.OK || !slices.Equal(got, want) {
		t.Errorf("%q of %q: %q with error %d, not %q", main, short(files), got, e, want)
	}
}

func TestExampleOfTheChapter(t *testing.T) {
	files := set("main", `/include/ "a"; / { p; };`, "a", "/ { q; };")
	got := loaded(t, files, "main")
	want := []api.Definition{
		{Kind: api.DefNode, Name: "/", Position: api.Position{File: 1, Line: 1, Column: 1}},
		{Kind: api.DefProperty, Name: "q", Position: api.Position{File: 1, Line: 1, Column: 5}},
		{Kind: api.DefEnd, Position: api.Position{File: 1, Line: 1, Column: 8}},
		{Kind: api.DefNode, Name: "/", Position: api.Position{File: 0, Line: 1, Column: 16}},
		{Kind: api.DefProperty, Name: "p", Position: api.Position{File: 0, Line: 1, Column: 20}},
		{Kind: api.DefEnd, Position: api.Position{File: 0, Line: 1, Column: 23}},
	}
	if !source.Same(got, want) {
		t.Errorf("%v, not %v", got, want)
	}
	loads(t, files, "main", [3]int{1, 0, 3}, [3]int{0, 1, 4})
	reads(t, files, "main", "main", "a")
	loads(t, files, "a", [3]int{1, 0, 3})
	reads(t, files, "a", "a")
}

func TestFilesThatIncludeNothing(t *testing.T) {
	for _, s := range []string{"", " \n", "// a\n", "/* / { }; */"} {
		loads(t, set("m", s), "m")
		reads(t, set("m", s), "m", "m")
	}
	text := "l: / { a = <1 &l (2 + 3)>, \"s\", [6 7], &l; n { }; /delete-property/ a; /delete-node/ n; };\n/delete-node/ &l; &l { };"
	files := set("m", text)
	loads(t, files, "m", [3]int{0, 0, 10})
	reads(t, files, "m", "m")
}

func TestPlacesOfIncludes(t *testing.T) {
	const a, b = "/ { a = <1>; };", "\n&l { b { }; };"
	// Before, between and after other definitions, and alone.
	loads(t, set("m", `/include/ "a";`, "a", a), "m", [3]int{1, 0, 3})
	loads(t, set("m", `/include/ "a"; / { };`, "a", a), "m", [3]int{1, 0, 3}, [3]int{0, 1, 3})
	loads(t, set("m", `/ { }; /include/ "a";`, "a", a), "m", [3]int{0, 0, 2}, [3]int{1, 0, 3})
	loads(t, set("m", `/ { }; /include/ "a"; / { };`, "a", a), "m", [3]int{0, 0, 2}, [3]int{1, 0, 3}, [3]int{0, 3, 5})
	// Several ones.
	files := set("m", `/include/ "b"; / { }; /include/ "a"; / { };`, "a", a, "b", b)
	loads(t, files, "m", [3]int{2, 0, 4}, [3]int{0, 1, 3}, [3]int{1, 0, 3}, [3]int{0, 4, 6})
	reads(t, files, "m", "m", "b", "a")
	files = set("m", `/include/ "a"; /include/ "b";`, "a", a, "b", b)
	loads(t, files, "m", [3]int{1, 0, 3}, [3]int{2, 0, 4})
	reads(t, files, "m", "m", "a", "b")
	// Files without definitions.
	files = set("m", `/ { }; /include/ "a"; / { };`, "a", "// / { };")
	loads(t, files, "m", [3]int{0, 0, 2}, [3]int{0, 3, 5})
	reads(t, files, "m", "m", "a")
}

func TestIncludesInIncludedFiles(t *testing.T) {
	files := set("a", `/ { a; }; /include/ "b"; / { A; };`, "b", `/ { b; }; /include/ "c"; / { B; };`, "c", "/ { c; };")
	loads(t, files, "a", [3]int{0, 0, 3}, [3]int{1, 0, 3}, [3]int{2, 0, 3}, [3]int{1, 4, 7}, [3]int{0, 4, 7})
	reads(t, files, "a", "a", "b", "c")
	loads(t, files, "b", [3]int{1, 0, 3}, [3]int{2, 0, 3}, [3]int{1, 4, 7})
	reads(t, files, "b", "b", "c")
	loads(t, files, "c", [3]int{2, 0, 3})
	reads(t, files, "c", "c")
	// What is included at the beginning or the end of an included file.
	files = set("m", `/include/ "a"; / { };`, "a", `/include/ "b";/ { a; };/include/ "b";`, "b", `/ { b; };`)
	loads(t, files, "m", [3]int{2, 0, 3}, [3]int{1, 1, 4}, [3]int{2, 0, 3}, [3]int{0, 1, 3})
	reads(t, files, "m", "m", "a", "b")
}

// TestFilesInTheOrderOfReading checks that what an included file includes is read before what comes after it.
func TestFilesInTheOrderOfReading(t *testing.T) {
	files := set("m", `/include/ "a"; /include/ "b"; /include/ "c";`, "c", "", "b", `/include/ "d"; /include/ "c";`, "d", "", "a", `/include/ "e";`, "e", `/include/ "d";`)
	loads(t, files, "m")
	reads(t, files, "m", "m", "a", "e", "d", "b", "c")
	reads(t, files, "b", "b", "d", "c")
	// The order of the files does not matter, but for the File of Positions.
	for range files {
		files = append(files[1:], files[0])
		reads(t, files, "m", "m", "a", "e", "d", "b", "c")
	}
}

// chain returns so many files, each of which includes the next one and has definitions of its own before and after that.
func chain(n int) []api.File {
	var out []api.File
	for i := range n {
		name := string(rune('a' + i))
		text := "/ { " + name + "; };"
		if i < n-1 {
			text += ` /include/ "` + string(rune('b'+i)) + `"; / { };`
		}
		out = append(out, api.File{Name: name, Text: text})
	}
	return out
}

func TestChainsOfFiles(t *testing.T) {
	for n := 1; n <= api.MaxFiles; n++ {
		var pieces [][3]int
		var names []string
		files := chain(n)
		for i, f := range files {
			pieces = append(pieces, [3]int{i, 0, 3})
			names = append(names, f.Name)
		}
		for i := n - 2; i >= 0; i-- {
			pieces = append(pieces, [3]int{i, 4, 6})
		}
		loads(t, files, "a", pieces...)
		reads(t, files, "a", names...)
	}
}

func TestFilesThatAreIncludedSeveralTimes(t *testing.T) {
	const a = "/ { a = <1 &l>, \"s\"; };"
	again := [3]int{1, 0, 3}
	files := set("m", strings.Repeat(`/include/ "a"; `, 5), "a", a)
	loads(t, files, "m", again, again, again, again, again)
	reads(t, files, "m", "m", "a")
	files = set("m", `/include/ "a"; / { }; /include/ "a"; / { };`, "a", a)
	loads(t, files, "m", again, [3]int{0, 1, 3}, again, [3]int{0, 4, 6})
	reads(t, files, "m", "m", "a")
	// By two files, by each other's side and one in the other.
	files = set("m", `/include/ "b"; /include/ "c";`, "a", a, "b", `/include/ "a"; / { b; };`, "c", `/ { c; }; /include/ "a";`)
	loads(t, files, "m", again, [3]int{2, 1, 4}, [3]int{3, 0, 3}, again)
	reads(t, files, "m", "m", "b", "a", "c")
	files = set("m", `/include/ "a"; /include/ "b"; /include/ "a";`, "a", a, "b", `/include/ "a"; / { b; }; /include/ "a";`)
	loads(t, files, "m", again, again, [3]int{2, 1, 4}, again, again)
	reads(t, files, "m", "m", "a", "b")
	// With what they include.
	files = set("m", `/include/ "b"; / { }; /include/ "b"; /include/ "a";`, "a", a, "b", `/ { b; }; /include/ "a"; / { };`)
	loads(t, files, "m", [3]int{2, 0, 3}, again, [3]int{2, 4, 6}, [3]int{0, 1, 3}, [3]int{2, 0, 3}, again, [3]int{2, 4, 6}, again)
	reads(t, files, "m", "m", "b", "a")
}

// TestFilesThatAreNotIncluded checks that what is not read may be anything.
func TestFilesThatAreNotIncluded(t *testing.T) {
	for _, s := range []string{"$", "/ {", "/*", `/include/ "m";`, `/include/ "b";`, `/include/ "none";`, strings.Repeat(" ", api.MaxText+1), "/ { p = <(1 / 0)>; };", `/include/ "a"; /include/ "m";`, "/include/"} {
		files := set("b", s, "m", `/include/ "a"; / { m; };`, "a", "/ { a; };")
		loads(t, files, "m", [3]int{2, 0, 3}, [3]int{1, 1, 4})
		reads(t, files, "m", "m", "a")
		loads(t, files, "a", [3]int{2, 0, 3})
		reads(t, files, "a", "a")
	}
}

func TestPositionsHaveTheIndexOfTheFile(t *testing.T) {
	files := set("m", `/include/ "a"; / { }; /include/ "a";`, "a", "/ { a; };")
	var others []api.File
	for range api.MaxFiles - 1 {
		at := len(others)
		l := append(slices.Clone(others), files...)
		loads(t, l, "m", [3]int{at + 1, 0, 3}, [3]int{at, 1, 3}, [3]int{at + 1, 0, 3})
		got := loaded(t, l, "m")
		for i, want := range []int{1, 1, 1, 0, 0, 1, 1, 1} {
			if i >= len(got) || got[i].Position.File != at+want {
				t.Errorf("%v: definition %d is not one of the file %d", got, i, at+want)
			}
		}
		others = append(others, api.File{Name: strings.Repeat("x", 1+at)})
	}
}

func TestNamesAreBytes(t *testing.T) {
	long := strings.Repeat("n", 5000)
	for name, text := range map[string]string{"": `""`, " ": `" "`, "a": `"\x61"`, "A": `"A"`, "/": `"/"`, "&l": `"&l"`, "a b\n\t\"\\": `"a b\n\t\"\\"`, "a\x00": `"a\x00"`, "\xff": `"\xff"`, "\xfe": `"\xfe"`, "\u00e9": "\"\u00e9\"", "board.dts": `"board.dts"`, long: `"` + long + `"`} {
		files := set("e\x00", "$", "m", "/include/ "+text+"; / { };", name, "/ { a; };", "\xfd", "$")
		loads(t, files, "m", [3]int{2, 0, 3}, [3]int{1, 1, 3})
		reads(t, files, "m", "m", name)
		loads(t, files, name, [3]int{2, 0, 3})
		reads(t, files, name, name)
	}
	// Only what is equal byte by byte is a name.
	for _, name := range []string{"A", "a ", " a", "aa", "", "a\x00", "\xff", "./a", "a.dts", "\xc3\xa0"} {
		fails(t, set("m", `/ { }; /include/ "a";`, name, ""), "m", at(0, 1, 8), api.ErrUnknown)
		fails(t, set("m", "", name, ""), "a", api.Position{}, api.ErrUnknown)
		loads(t, set("m", `/include/ "a";`, name, "$", "a", ""), "m")
	}
}

// TestOnlyIncludesInclude checks that definitions of other kinds stay what they are, whatever their names are.
func TestOnlyIncludesInclude(t *testing.T) {
	files := set("m", `a: / { a; a = "a"; b { }; /delete-property/ a; /delete-node/ b; }; &a { }; /delete-node/ &a;`, "a", "$", "&a", "$", "/", "$", "", "$", "b", "$")
	loads(t, files, "m", [3]int{0, 0, 11})
	reads(t, files, "m", "m")
}

// TestArgumentsStay checks that neither the files nor what is returned later are changed.
func TestArgumentsStay(t *testing.T) {
	files := set("m", `/include/ "a"; / { p = <1 2>, "s"; }; /include/ "a";`, "a", "/ { q = <3>, <4 5>; };", "b", "$")
	whole := slices.Clone(files)
	l := loaded(t, files, "m")
	names, _ := include.Files(files, "m")
	spoil(l)
	names[0] = "x"
	_ = append(names[:1], "y")
	if !slices.Equal(files, whole) {
		t.Errorf("%q, not %q", files, whole)
	}
	loads(t, files, "m", [3]int{1, 0, 3}, [3]int{0, 1, 4}, [3]int{1, 0, 3})
	reads(t, files, "m", "m", "a")
}

// spoil changes all that definitions hold.
func spoil(l []api.Definition) {
	for i := range l {
		for j := range l[i].Parts {
			for k := range l[i].Parts[j].Cells {
				l[i].Parts[j].Cells[k] = api.Cell{Value: -1, Label: "spoilt"}
			}
			l[i].Parts[j].Cells = append(l[i].Parts[j].Cells, api.Cell{Label: "more"})
			l[i].Parts[j].Text = "spoilt"
		}
		l[i].Parts = append(l[i].Parts, api.Part{Text: "more"})
	}
}

// TestDefinitionsShareNoMemory checks that a file that is included several times has definitions of its own each time.
func TestDefinitionsShareNoMemory(t *testing.T) {
	files := set("m", `/include/ "b"; /include/ "a"; /include/ "b";`, "a", "/ { q = <3>, <4 5>, \"s\", [6], &l; r = <7>; };", "b", `/include/ "a"; /include/ "a";`)
	want := loaded(t, files, "m")
	for i := range want {
		l := loaded(t, files, "m")
		spoil(l[i : i+1])
		l[i] = want[i]
		if !source.Same(l, want) {
			t.Errorf("definition %d: %v, not %v", i, l, want)
		}
	}
}
