package include_test

import (
	"math/rand"
	"slices"
	"strings"
	"testing"

	"bringup/api"
	"bringup/include"
	"bringup/source"
)

// opened is a file that is being gone through, with the definitions of it that are still to come.
type opened struct {
	name string
	rest []api.Definition
}

// model reads files as the chapter says it, each one anew whenever it is included; it keeps nothing but what is open.
type model struct {
	files []api.File
	open  []opened
	out   []api.Definition
	names []string
}

// enter begins with the file with a name, which was named at a place.
func (m *model) enter(name string, place api.Position) (api.Position, api.Errno) {
	for _, o := range m.open {
		if o.name == name {
			return place, api.ErrLoop
		}
	}
	for i, f := range m.files {
		if f.Name != name {
			continue
		}
		l, place, e := source.Read(f.Text, i)
		if e != api.OK {
			return place, e
		}
		m.open = append(m.open, opened{name, l})
		if !slices.Contains(m.names, name) {
			m.names = append(m.names, name)
		}
		return api.Position{}, api.OK
	}
	return place, api.ErrUnknown
}

// step goes on with the innermost file that is open.
func (m *model) step() (api.Position, api.Errno) {
	last := &m.open[len(m.open)-1]
	if len(last.rest) == 0 {
		m.open = m.open[:len(m.open)-1]
		return api.Position{}, api.OK
	}
	d := last.rest[0]
	last.rest = last.rest[1:]
	if d.Kind == api.DefInclude {
		return m.enter(d.Name, d.Position)
	}
	m.out = append(m.out, d)
	if len(m.out) == api.MaxTokens+1 {
		return d.Position, api.ErrLimit
	}
	return api.Position{}, api.OK
}

// expected returns what Load and Files should return.
func expected(files []api.File, main string) ([]api.Definition, []string, api.Position, api.Errno) {
	names := map[string]bool{}
	for _, f := range files {
		names[f.Name] = true
	}
	switch {
	case len(files) > api.MaxFiles:
		return nil, nil, api.Position{}, api.ErrLimit
	case len(names) < len(files):
		return nil, nil, api.Position{}, api.ErrDuplicate
	case !names[main]:
		return nil, nil, api.Position{}, api.ErrUnknown
	}
	m := model{files: files}
	place, e := m.enter(main, api.Position{})
	for e == api.OK && len(m.open) > 0 {
		place, e = m.step()
	}
	if e != api.OK {
		return nil, nil, place, e
	}
	return m.out, m.names, place, e
}

// asExpected checks Load and Files, and returns the error.
func asExpected(t *testing.T, files []api.File, main string) api.Errno {
	t.Helper()
	want, names, place, e := expected(files, main)
	got, gotPlace, gotE := include.Load(files, main)
	if gotE != e || gotPlace != place || !source.Same(got, want) {
		t.Errorf("%q of %q: %d definitions, %v, error %d, not %d, %v, %d", main, short(files), len(got), gotPlace, gotE, len(want), place, e)
	}
	gotNames, gotE := include.Files(files, main)
	if gotE != e || !slices.Equal(gotNames, names) {
		t.Errorf("%q of %q: %q, error %d, not %q, %d", main, short(files), gotNames, gotE, names, e)
	}
	return e
}

// TestAllSmallSets checks all sets of three files with a few words, with each of them as main.
func TestAllSmallSets(t *testing.T) {
	words := []string{"\n/ { p = <1>; };", `/include/ "a";`, `/include/ "b";`, `/include/ "c";`, `/include/ "d";`, "$"}
	texts := append([]string{""}, words...)
	for _, a := range words {
		for _, b := range words[:5] {
			texts = append(texts, a+" "+b)
		}
	}
	seen := map[api.Errno]int{}
	for _, a := range texts {
		for _, b := range texts {
			for _, c := range texts {
				seen[asExpected(t, set("a", a, "b", b, "c", c), "a")]++
			}
		}
		for _, main := range []string{"b", "c", "d", ""} {
			seen[asExpected(t, set("a", a, "b", `/include/ "a"; / { };`, "c", `/ { }; /include/ "b"; /include/ "a";`), main)]++
		}
	}
	for _, e := range []api.Errno{api.OK, api.ErrUnknown, api.ErrLoop, api.ErrCharacter} {
		if seen[e] < 100 {
			t.Errorf("error %d occurs only %d times", e, seen[e])
		}
	}
}

// writer writes mixed sets of files.
type writer struct{ *rand.Rand }

func (w writer) one(of ...string) string { return of[w.Intn(len(of))] }

// text returns a text that includes some of the files with these names.
func (w writer) text(names []string, most int) string {
	var out strings.Builder
	for range w.Intn(4) {
		switch w.Intn(3) {
		case 0:
			out.WriteString(w.one("/ { a; };", "&l { b = <1 &l>, \"s\"; c { }; };", "/delete-node/ &l;", "// c", full(2*w.Intn(most))))
		default:
			if len(names) > 0 {
				out.WriteString("/include/ \"" + w.one(names...) + "\";")
			}
		}
		out.WriteString(w.one("", " ", "\n"))
	}
	return out.String()
}

// set returns files of which each includes only those after it, as long as nothing else is put in.
func (w writer) set(n, most int) []api.File {
	names := []string{"m", "a", "b", "", "A", "a b", "\xff", "m2", "z"}[:n]
	var out []api.File
	for i, name := range names {
		out = append(out, api.File{Name: name, Text: w.text(names[i+1:], most)})
	}
	return out
}

// spoil puts something into one of the files that may be an error.
func (w writer) spoil(files []api.File) {
	at := w.Intn(len(files))
	names := []string{"none"}
	for _, f := range files {
		names = append(names, f.Name)
	}
	switch w.Intn(4) {
	case 0:
		files[at].Name = w.one(names...)
	case 1:
		files[at].Text += w.one("\n$", "/ { p = [256]; };", "/ { p = <(1 / 0)>; };", "/*", "/ {")
	default:
		files[at].Text = w.one(files[at].Text, "/ { };") + "\n/include/ \"" + w.one(names...) + "\";" + w.text(names, 2)
	}
}

// TestMixedSets checks sets without circles, and then with what may be errors, in any order of the files.
func TestMixedSets(t *testing.T) {
	w := writer{rand.New(rand.NewSource(1))}
	seen := map[api.Errno]int{}
	for i := range 6000 {
		files := w.set(1+w.Intn(api.MaxFiles), 5)
		if i%10 == 0 {
			files = w.set(2+w.Intn(api.MaxFiles), 1500)
		}
		w.Shuffle(len(files), func(i, j int) { files[i], files[j] = files[j], files[i] })
		seen[asExpected(t, files, "m")]++
		seen[asExpected(t, files, w.one("a", "b", ""))]++
		for range 3 {
			w.spoil(files)
			seen[asExpected(t, files, w.one("m", "a"))]++
		}
	}
	for _, e := range []api.Errno{api.OK, api.ErrLimit, api.ErrDuplicate, api.ErrUnknown, api.ErrLoop, api.ErrCharacter, api.ErrSyntax, api.ErrRange, api.ErrDivide} {
		if seen[e] < 50 {
			t.Errorf("error %d occurs only %d times", e, seen[e])
		}
	}
}
