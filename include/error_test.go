package include_test

import (
	"slices"
	"strconv"
	"strings"
	"testing"

	"bringup/api"
	"bringup/include"
	"bringup/source"
)

func at(file, line, column int) api.Position {
	return api.Position{File: file, Line: line, Column: column}
}

// fails checks that files have this error at this place, and neither definitions nor names.
func fails(t *testing.T, files []api.File, main string, place api.Position, want api.Errno) {
	t.Helper()
	l, p, e := include.Load(files, main)
	if e != want || p != place || len(l) != 0 {
		t.Errorf("%q of %q: error %d at %v with %d definitions, not %d at %v", main, short(files), e, p, len(l), want, place)
	}
	names, e := include.Files(files, main)
	if e != want || len(names) != 0 {
		t.Errorf("%q of %q: error %d with the names %q, not %d", main, short(files), e, names, want)
	}
}

// wrong returns texts that have errors, each one with a definition before it.
func wrong() []string {
	var out []string
	for _, s := range []string{"$", "/*", "a-b: / { };", "08", "4294967296", `"\q"`, `"a`, "/ {", "a", "/ { a@1; };", "/ { p = [256]; };", "/ { p = <(1 / 0)>; };", "/ { p = <(((((((((1)))))))))>; };", "/ {" + strings.Repeat(" n {", api.MaxDepth+1),
		strings.Repeat("n", api.MaxName+1) + ": / { };", strings.Repeat(";", api.MaxTokens), strings.Repeat(" ", api.MaxText), "/include/ a;", `/include/ "a"`, `/ { /include/ "a"; };`, `/include/ "a" "b";`, `l: /include/ "a";`} {
		out = append(out, "/ { };\n "+s)
	}
	return out
}

// fault returns the error of a text that is the one of a file.
func fault(t *testing.T, text string, file int) (api.Position, api.Errno) {
	t.Helper()
	_, p, e := source.Read(text, file)
	if e == api.OK {
		t.Fatalf("%.200q has no error", text)
	}
	return p, e
}

// many returns so many files with different names.
func many(n int) []api.File {
	var out []api.File
	for i := range n {
		out = append(out, api.File{Name: "f" + strconv.Itoa(i), Text: "/ { };"})
	}
	return out
}

func TestTooManyFiles(t *testing.T) {
	loads(t, many(api.MaxFiles), "f0", [3]int{0, 0, 2})
	loads(t, many(api.MaxFiles), "f7", [3]int{7, 0, 2})
	reads(t, many(api.MaxFiles), "f7", "f7")
	for _, n := range []int{api.MaxFiles + 1, api.MaxFiles + 2, 100} {
		fails(t, many(n), "f0", api.Position{}, api.ErrLimit)
		fails(t, many(n), "f"+strconv.Itoa(n-1), api.Position{}, api.ErrLimit)
		fails(t, many(n), "none", api.Position{}, api.ErrLimit)
		fails(t, make([]api.File, n), "", api.Position{}, api.ErrLimit)
		fails(t, make([]api.File, n), "none", api.Position{}, api.ErrLimit)
		files := many(n)
		files[0].Text = "$"
		fails(t, files, "f0", api.Position{}, api.ErrLimit)
	}
}

func TestTwoFilesWithTheSameName(t *testing.T) {
	for n := 2; n <= api.MaxFiles; n++ {
		for i := range n {
			for j := range i {
				files := many(n)
				files[i].Name = files[j].Name
				for _, main := range []string{"f0", "f1", files[i].Name, "none", ""} {
					fails(t, files, main, api.Position{}, api.ErrDuplicate)
				}
				// It does not matter whether they are read, or differ.
				files[j].Text = "$"
				fails(t, files, files[j].Name, api.Position{}, api.ErrDuplicate)
				files[i].Text = "$"
				fails(t, files, files[j].Name, api.Position{}, api.ErrDuplicate)
			}
		}
	}
	fails(t, set("", "", "", ""), "", api.Position{}, api.ErrDuplicate)
	fails(t, set("m", "", "\xff", "", "\xff", ""), "m", api.Position{}, api.ErrDuplicate)
	loads(t, set("m", "", "\xff", "", "\xfe", "", "M", "", "m ", "", "", "", "m\x00", "", "mm", ""), "m")
}

func TestNoFileMain(t *testing.T) {
	for _, main := range []string{"", "m", "none", "\xff", strings.Repeat("n", 100000)} {
		fails(t, nil, main, api.Position{}, api.ErrUnknown)
		fails(t, []api.File{}, main, api.Position{}, api.ErrUnknown)
		fails(t, set("a", "$"), main, api.Position{}, api.ErrUnknown)
		fails(t, many(api.MaxFiles), main, api.Position{}, api.ErrUnknown)
	}
	fails(t, set("a", `/include/ "m";`, "b", ""), "m", api.Position{}, api.ErrUnknown)
}

// TestErrorsOfSource checks the errors of main, of an included file and of one that is included by that one.
func TestErrorsOfSource(t *testing.T) {
	for _, s := range wrong() {
		for _, f := range []struct {
			files []api.File
			index int
		}{
			{set("m", s), 0},
			{set("x", "", "m", s, "a", ""), 1},
			{set("m", `/ { }; /include/ "a"; / { };`, "a", s), 1},
			{set("x", "", "a", s, "m", `/include/ "a";`), 1},
			{set("m", `/include/ "b"; / { };`, "a", s, "b", `/ { }; /include/ "a";`), 1},
			{set("m", `/include/ "b"; /include/ "b"; /include/ "a";`, "x", "$", "a", s, "b", "/ { };"), 2},
		} {
			p, e := fault(t, s, f.index)
			fails(t, f.files, "m", p, e)
		}
	}
	// A text that is too long has its error without a place.
	fails(t, set("m", `/include/ "a";`, "a", strings.Repeat(" ", api.MaxText+1)), "m", api.Position{}, api.ErrLimit)
	loads(t, set("m", `/include/ "a";`, "a", strings.Repeat(" ", api.MaxText)), "m")
}

func TestFilesThatAreMissing(t *testing.T) {
	fails(t, set("m", `/include/ "a";`), "m", at(0, 1, 1), api.ErrUnknown)
	fails(t, set("m", "/ { };\n  /include/\n\"a\";", "b", ""), "m", at(0, 2, 3), api.ErrUnknown)
	fails(t, set("m", `/include/ "";`, "b", ""), "m", at(0, 1, 1), api.ErrUnknown)
	fails(t, set("m", `/include/ "b"; /include/ "a";`, "b", "/ { };"), "m", at(0, 1, 16), api.ErrUnknown)
	fails(t, set("b", "\n/include/ \"a\";", "m", `/include/ "b"; /include/ "x";`), "m", at(0, 2, 1), api.ErrUnknown)
	fails(t, set("m", `/include/ "b";`, "c", "/include/ \"b\"; /include/ \"d\";", "b", ` /include/ "a";`), "m", at(2, 1, 2), api.ErrUnknown)
}

func TestFilesThatIncludeThemselves(t *testing.T) {
	fails(t, set("m", `/include/ "m";`), "m", at(0, 1, 1), api.ErrLoop)
	fails(t, set("", "\n /include/ \"\";"), "", at(0, 2, 2), api.ErrLoop)
	fails(t, set("m", `/ { }; /include/ "m"; / { };`, "a", ""), "m", at(0, 1, 8), api.ErrLoop)
	fails(t, set("m", `/include/ "a";`, "a", `/ { }; /include/ "a";`), "m", at(1, 1, 8), api.ErrLoop)
	fails(t, set("a", `/include/ "a";`, "m", `/include/ "b"; /include/ "a";`, "b", ""), "m", at(0, 1, 1), api.ErrLoop)
}

func TestFilesThatIncludeMain(t *testing.T) {
	fails(t, set("m", `/include/ "a";`, "a", `/include/ "m";`), "m", at(1, 1, 1), api.ErrLoop)
	fails(t, set("m", `/include/ "a";`, "a", `/include/ "m";`), "a", at(0, 1, 1), api.ErrLoop)
	fails(t, set("m", `/include/ "a"; /include/ "b";`, "a", "/ { };", "b", "\n/include/ \"a\"; /include/ \"m\";"), "m", at(2, 2, 16), api.ErrLoop)
	fails(t, set("m", `/include/ "a";`, "a", `/include/ "b"; /include/ "m";`, "b", `/include/ "c";`, "c", ` /include/ "m";`), "m", at(3, 1, 2), api.ErrLoop)
}

// TestCirclesOfFiles checks circles of all lengths, to which chains of all lengths lead.
func TestCirclesOfFiles(t *testing.T) {
	for n := 1; n <= api.MaxFiles; n++ {
		for back := range n {
			files := chain(n)
			circle := "/include/ \"" + files[back].Name + "\"; / { };"
			files[n-1].Text = circle
			fails(t, files, "a", at(n-1, 1, 1), api.ErrLoop)
			files[n-1].Text = "/ { };\n " + circle
			fails(t, files, "a", at(n-1, 2, 2), api.ErrLoop)
			if n == api.MaxFiles {
				continue
			}
			// What has ended is no part of a circle.
			files = append(files, api.File{Name: "other", Text: "/ { };"})
			files[n-1].Text = "/include/ \"other\";\n" + circle
			fails(t, files, "a", at(n-1, 2, 1), api.ErrLoop)
			for i := range n - 1 {
				files[i].Text = "/include/ \"other\";\n" + files[i].Text
			}
			fails(t, files, "a", at(n-1, 2, 1), api.ErrLoop)
		}
	}
}

// TestNoCircles checks that files that have ended may be included again, also by those in which they were included.
func TestNoCircles(t *testing.T) {
	files := set("m", `/include/ "a"; /include/ "b"; /include/ "c"; /include/ "b"; /include/ "a";`, "a", "/ { };", "b", `/include/ "a"; /include/ "a";`, "c", `/include/ "b"; /include/ "a"; /include/ "b";`)
	a := [3]int{1, 0, 2}
	loads(t, files, "m", a, a, a, a, a, a, a, a, a, a, a)
	reads(t, files, "m", "m", "a", "b", "c")
	// A circle is one only where it closes.
	files[1].Text = `/include/ "c";`
	fails(t, files, "m", at(2, 1, 1), api.ErrLoop)
	fails(t, files, "a", at(2, 1, 1), api.ErrLoop)
	fails(t, files, "b", at(3, 1, 1), api.ErrLoop)
	fails(t, files, "c", at(1, 1, 1), api.ErrLoop)
	files[1].Text = `/include/ "m";`
	fails(t, files, "m", at(1, 1, 1), api.ErrLoop)
	fails(t, files, "b", at(0, 1, 1), api.ErrLoop)
}

// TestTheFirstErrorIsMet puts each two errors one after the other, in one file and in two.
func TestTheFirstErrorIsMet(t *testing.T) {
	others := set("s", "/ { };\n $", "r", "/ { p = [256]; };", "u", ` /include/ "none";`, "l", `  /include/ "l";`, "h", "   /include/ \"m\";")
	faults := []struct {
		text  string
		place api.Position
		e     api.Errno
	}{
		{`/include/ "s";`, at(0, 2, 2), api.ErrCharacter},
		{`/include/ "r";`, at(1, 1, 10), api.ErrRange},
		{`/include/ "u";`, at(2, 1, 2), api.ErrUnknown},
		{`/include/ "l";`, at(3, 1, 3), api.ErrLoop},
		{`/include/ "h";`, at(4, 1, 4), api.ErrLoop},
		{`/include/ "none";`, at(5, 1, 1), api.ErrUnknown},
		{`/include/ "m";`, at(5, 1, 1), api.ErrLoop},
	}
	for _, a := range faults {
		for _, b := range faults {
			files := append(slices.Clone(others), set("m", a.text+"\n"+b.text)...)
			fails(t, files, "m", a.place, a.e)
			// What follows in a file that includes the first one comes later, too.
			if a.place.File < 5 {
				files = append(slices.Clone(others), set("m", `/include/ "b"; `+b.text, "b", a.text+b.text)...)
				fails(t, files, "m", a.place, a.e)
			}
		}
		// The file itself is read before what it includes.
		files := append(slices.Clone(others), set("m", a.text+"\n\n $")...)
		fails(t, files, "m", at(5, 3, 2), api.ErrCharacter)
		files = append(slices.Clone(others), set("m", `/include/ "b";`, "b", a.text+"\n\n  / { p = <(1 % 0)>; };")...)
		fails(t, files, "m", at(6, 3, 12), api.ErrDivide)
	}
}
