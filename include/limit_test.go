package include_test

import (
	"strings"
	"testing"

	"bringup/api"
	"bringup/include"
)

const most = api.MaxTokens

// full returns a text with an even number of definitions; its definition i is in the column 1 + 2 * i.
func full(definitions int) string { return strings.Repeat("/{};", definitions/2) }

// begin is what m begins with if others fill it up.
const begin = `/include/ "x"; /include/ "x"; /include/ "y"; `

// brim returns files of which m has an even number of definitions by what it includes, and then those of a text.
func brim(definitions int, text string, others ...string) []api.File {
	const third = 2000
	return append(set("m", begin+text, "x", full(third), "y", full(definitions-2*third)), set(others...)...)
}

// inMain is a place in the text that brim puts behind what fills m up.
func inMain(column int) api.Position { return at(0, 1, len(begin)+column) }

// counts checks how many definitions m has.
func counts(t *testing.T, files []api.File, want int) {
	t.Helper()
	if got := loaded(t, files, "m"); len(got) != want {
		t.Errorf("%q: %d definitions, not %d", short(files), len(got), want)
	}
	if _, e := include.Files(files, "m"); e != api.OK {
		t.Errorf("%q: error %d", short(files), e)
	}
}

func TestMostDefinitions(t *testing.T) {
	counts(t, brim(most-2, ""), most-2)
	counts(t, brim(most-2, "/delete-node/ &l;"), most-1)
	counts(t, brim(most-2, "/ { };"), most)
	counts(t, brim(most-4, "/ { a; b; };"), most)
	counts(t, brim(most, ""), most)
	fails(t, brim(most-4, "/ { a; b; c; };"), "m", inMain(14), api.ErrLimit)
	fails(t, brim(most-4, "/ { a; b; c; d; };"), "m", inMain(14), api.ErrLimit)
	fails(t, brim(most-4, "/ { a; b; c; };\n / { };"), "m", inMain(14), api.ErrLimit)
	fails(t, brim(most-2, "/ { a; };"), "m", inMain(8), api.ErrLimit)
	fails(t, brim(most-2, "/ { };\n / { };"), "m", at(0, 2, 2), api.ErrLimit)
	fails(t, brim(most-2, "/ { };\n  l: / { };"), "m", at(0, 2, 3), api.ErrLimit)
	fails(t, brim(most-2, "/ { };\n/delete-node/ &l;"), "m", at(0, 2, 1), api.ErrLimit)
	fails(t, brim(most-2, "/ { a { }; };"), "m", inMain(9), api.ErrLimit)
	fails(t, brim(most, "/ { };"), "m", inMain(1), api.ErrLimit)
	fails(t, brim(most+2, ""), "m", at(2, 1, 1+2*2000), api.ErrLimit)
}

// TestFirstDefinitionBeyond checks its place in files that are included for the first time, or once more.
func TestFirstDefinitionBeyond(t *testing.T) {
	const a = "/ {\n a;\n  b;\n};"
	for i, place := range []api.Position{at(3, 1, 1), at(3, 2, 2), at(3, 3, 3), at(3, 4, 1)} {
		odd := i % 2
		before := most - i - odd
		one := strings.Repeat("/delete-node/ &l; ", odd)
		fails(t, brim(before, one+`/include/ "a";`, "a", a), "m", place, api.ErrLimit)
		fails(t, brim(before, one+`/include/ "a"; / { }; /include/ "none";`, "a", a), "m", place, api.ErrLimit)
		fails(t, brim(before, one+`/include/ "b";`, "a", a, "b", `/include/ "a";`), "m", place, api.ErrLimit)
		// The four definitions of a come before all others, and once more at the end.
		for _, name := range []string{"a", "b"} {
			for _, again := range []string{"a", "b", "c"} {
				files := brim(before-4, one+`/include/ "`+again+`"; /include/ "none";`, "a", a, "b", `/include/ "a";`, "c", `/include/ "b";`)
				files[0].Text = `/include/ "` + name + `"; ` + files[0].Text
				fails(t, files, "m", place, api.ErrLimit)
			}
		}
	}
	counts(t, brim(most-4, `/include/ "a";`, "a", a), most)
	counts(t, brim(most-8, `/include/ "a"; /include/ "b";`, "a", a, "b", `/include/ "a";`), most)
}

// TestTheSameFileUntilTheLimit includes a file alone as often as it can be, and once more.
func TestTheSameFileUntilTheLimit(t *testing.T) {
	for _, n := range []int{6, 8, 14, 100, 1000, 2000, 2500, 2998} {
		times := most / n
		text := strings.Repeat(`/include/"x";`, times)
		counts(t, set("m", text, "x", full(n)), times*n)
		place := at(1, 1, 1+2*(most-times*n))
		fails(t, set("m", text+`/include/"x";`, "x", full(n)), "m", place, api.ErrLimit)
		fails(t, set("m", text+`/include/"y";`, "x", full(n), "y", `/include/"x";`), "m", place, api.ErrLimit)
		fails(t, set("m", `/include/"y"; /include/"x";`, "x", full(n), "y", text), "m", place, api.ErrLimit)
	}
}

// TestWhatIsNoDefinitionHasNoLimit checks that includes do not count, and that their own errors come first.
func TestWhatIsNoDefinitionHasNoLimit(t *testing.T) {
	counts(t, brim(most, strings.Repeat(`/include/ "a";`, 500), "a", " "), most)
	counts(t, brim(most, strings.Repeat(`/include/ "a";`, 500), "a", strings.Repeat(`/include/ "b";`, 500), "b", ""), most)
	fails(t, brim(most, `/include/ "none";`), "m", inMain(1), api.ErrUnknown)
	fails(t, brim(most, `/include/ "m";`), "m", inMain(1), api.ErrLoop)
	fails(t, brim(most, `/include/ "a";`, "a", ` /include/ "a";`), "m", at(3, 1, 2), api.ErrLoop)
	fails(t, brim(most, `/include/ "a";`, "a", "/ { };\n$"), "m", at(3, 2, 1), api.ErrCharacter)
	fails(t, brim(most, `/include/ "a";`, "a", `/include/ "none"; / { };`), "m", at(3, 1, 1), api.ErrUnknown)
	fails(t, brim(most, `/include/ "a";`, "a", `/ { }; /include/ "none";`), "m", at(3, 1, 1), api.ErrLimit)
	fails(t, brim(most, `/include/ "x";`), "m", at(1, 1, 1), api.ErrLimit)
	fails(t, brim(most, `/include/ "b"; /include/ "a"; /include/ "none";`, "a", "\n\n/ { };", "b", ""), "m", at(3, 3, 1), api.ErrLimit)
	fails(t, brim(most, `/ { }; /include/ "none";`), "m", inMain(1), api.ErrLimit)
}

// bushes returns as many files as there may be, each of which includes the next one very often, and the last one with a text.
func bushes(text string) []api.File {
	files := chain(api.MaxFiles)
	for i, next := range files[1:] {
		files[i].Text = strings.Repeat(`/include/"`+next.Name+`";`, 1200)
	}
	files[api.MaxFiles-1].Text = text
	return files
}

// TestFilesThatAreIncludedVeryOften checks that what would be included more often than anyone can wait for is loaded at once.
func TestFilesThatAreIncludedVeryOften(t *testing.T) {
	loads(t, bushes(""), "a")
	reads(t, bushes(""), "a", "a", "b", "c", "d", "e", "f", "g", "h")
	fails(t, bushes("/ { };"), "a", at(7, 1, 1), api.ErrLimit)
	fails(t, bushes("/ { a; b; };"), "a", at(7, 1, 1), api.ErrLimit)
	fails(t, bushes("$"), "a", at(7, 1, 1), api.ErrCharacter)
	fails(t, bushes(`/include/ "i";`), "a", at(7, 1, 1), api.ErrUnknown)
	fails(t, bushes(`/include/ "g";`), "a", at(7, 1, 1), api.ErrLoop)
	// What comes after all that is included so often.
	files := bushes("")
	files[0].Text += "\n/include/ \"i\";"
	fails(t, files, "a", at(0, 2, 1), api.ErrUnknown)
	files = bushes("")
	files[1].Text += "\n/include/ \"a\";"
	fails(t, files, "a", at(1, 2, 1), api.ErrLoop)
	files = bushes("")
	files[0].Text += "\n/ { };"
	loads(t, files, "a", [3]int{0, 1200, 1202})
}
