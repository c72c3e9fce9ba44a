package label_test

import (
	"maps"
	"math/rand"
	"regexp"
	"slices"
	"strings"
	"testing"

	"bringup/api"
	"bringup/label"
	"bringup/tree"
)

// model goes through definitions as the chapter says it. Nodes are known by their paths, without the last '/' (the root is ""), and by numbers that no later node has again.
type model struct {
	numbers    map[string]int                       // of the nodes, by their paths
	properties map[string]map[string]api.Definition // by the paths and the names
	labels     map[string]int                       // the number of the node to which each one was given last
	open       []string                             // paths
	last       int                                  // the number that was given last
}

func newModel() *model {
	return &model{numbers: map[string]int{"": 0}, properties: map[string]map[string]api.Definition{"": {}}, labels: map[string]int{}}
}

var (
	labelForm    = regexp.MustCompile(`^[A-Za-z_][A-Za-z0-9_]{0,30}$`)
	nodeForm     = regexp.MustCompile(`^[A-Za-z_][A-Za-z0-9_,.+?#@-]{0,30}$`)
	propertyForm = regexp.MustCompile(`^[A-Za-z_#][A-Za-z0-9_,.+?#-]{0,30}$`)
	topForm      = regexp.MustCompile(`^&[A-Za-z_][A-Za-z0-9_]{0,30}$`)
)

// path returns the path of the node for which a label stands.
func (m *model) path(label string) (string, bool) {
	number, ok := m.labels[label]
	if !ok {
		return "", false
	}
	for p, n := range m.numbers {
		if n == number {
			return p, true
		}
	}
	return "", false
}

// meant returns the path that a name of a DefNode or DefRemove means, and whether there is such a node.
func (m *model) meant(name string) (string, bool) {
	if len(m.open) == 0 && name == "/" {
		return "", true
	}
	if len(m.open) == 0 {
		return m.path(strings.TrimPrefix(name, "&"))
	}
	p := m.open[len(m.open)-1] + "/" + name
	_, ok := m.numbers[p]
	return p, ok
}

// faults returns all errors that a definition has, in the order of the chapter.
func (m *model) faults(d api.Definition) []api.Errno {
	var out []api.Errno
	fault := func(e api.Errno, is bool) {
		if is {
			out = append(out, e)
		}
	}
	top := len(m.open) == 0
	node, rem, prop, del := d.Kind == api.DefNode, d.Kind == api.DefRemove, d.Kind == api.DefProperty, d.Kind == api.DefDelete
	odd := func(p api.Part) bool { return p.Kind < 1 || p.Kind > 4 }
	fault(api.ErrSyntax, d.Kind < 1 || d.Kind > 5)
	fault(api.ErrSyntax, top && (d.Kind == api.DefEnd || prop || del))
	fault(api.ErrSyntax, top && (node || rem) && !topForm.MatchString(d.Name) && !(node && d.Name == "/"))
	fault(api.ErrSyntax, slices.ContainsFunc(d.Parts, odd))
	fault(api.ErrInvalid, !top && (node || rem) && !nodeForm.MatchString(d.Name))
	fault(api.ErrInvalid, (prop || del) && !propertyForm.MatchString(d.Name))
	fault(api.ErrInvalid, d.Label != "" && !labelForm.MatchString(d.Label))
	if len(out) > 0 {
		return out
	}
	path, there := m.meant(d.Name)
	fault(api.ErrDangling, top && (node || rem) && !there)
	fault(api.ErrUnknown, !top && rem && !there)
	own := map[string]api.Definition{}
	if !top {
		own = m.properties[m.open[len(m.open)-1]]
	}
	_, has := own[d.Name]
	fault(api.ErrUnknown, del && !has)
	other, stands := m.path(d.Label)
	fault(api.ErrDuplicate, node && stands && (!there || other != path))
	fault(api.ErrInvalid, rem && there && path == "")
	fault(api.ErrRange, node && !there && strings.Count(path, "/") > api.MaxDepth)
	fault(api.ErrLimit, node && !there && len(m.numbers) == api.MaxNodes)
	fault(api.ErrLimit, prop && !has && len(own) == api.MaxProperties)
	return out
}

// carry carries out a definition without faults.
func (m *model) carry(d api.Definition) {
	path, there := m.meant(d.Name)
	switch d.Kind {
	case api.DefNode:
		if !there {
			m.last++
			m.numbers[path] = m.last
			m.properties[path] = map[string]api.Definition{}
		}
		if d.Label != "" {
			m.labels[d.Label] = m.numbers[path]
		}
		m.open = append(slices.Clone(m.open), path)
	case api.DefEnd:
		m.open = m.open[:len(m.open)-1]
	case api.DefProperty:
		m.properties[m.open[len(m.open)-1]][d.Name] = d
	case api.DefDelete:
		delete(m.properties[m.open[len(m.open)-1]], d.Name)
	case api.DefRemove:
		for p := range maps.Clone(m.numbers) {
			if p == path || strings.HasPrefix(p, path+"/") {
				delete(m.numbers, p)
				delete(m.properties, p)
			}
		}
	}
}

// paths returns the paths in the order of the tree.
func (m *model) paths() []string {
	return slices.SortedFunc(maps.Keys(m.numbers), func(a, b string) int {
		return slices.Compare(strings.Split(a, "/"), strings.Split(b, "/"))
	})
}

// phandle returns the phandle that parts say, and 0 if they say none.
func phandle(l []api.Part) int {
	if len(l) == 1 && l[0].Kind == api.PartCells && len(l[0].Cells) == 1 && l[0].Cells[0].Label == "" && l[0].Cells[0].Value > 0 && l[0].Cells[0].Value <= api.MaxPhandle {
		return l[0].Cells[0].Value
	}
	return 0
}

// all calls a function for all properties in the order of the tree, up to the first error.
func (m *model) all(see func(path string, d api.Definition) api.Errno) (api.Position, api.Errno) {
	for _, path := range m.paths() {
		for _, name := range slices.Sorted(maps.Keys(m.properties[path])) {
			d := m.properties[path][name]
			if e := see(path, d); e != api.OK {
				return d.Position, e
			}
		}
	}
	return api.Position{}, api.OK
}

// handles returns the phandles of the nodes by their paths, those that are assigned, too.
func (m *model) handles() (map[string]int, api.Position, api.Errno) {
	out := map[string]int{}
	place, e := m.all(func(path string, d api.Definition) api.Errno {
		for _, p := range d.Parts {
			for _, c := range p.Cells {
				if p.Kind == api.PartCells && c.Label == "" && c.Value != c.Value&api.MaxCell {
					return api.ErrRange
				}
			}
		}
		if d.Name != "phandle" {
			return api.OK
		}
		n := phandle(d.Parts)
		switch {
		case n == 0:
			return api.ErrRange
		case slices.Contains(slices.Collect(maps.Values(out)), n):
			return api.ErrDuplicate
		}
		out[path] = n
		return api.OK
	})
	if e != api.OK {
		return nil, place, e
	}
	wanted := map[string]bool{}
	place, e = m.all(func(_ string, d api.Definition) api.Errno { return m.wants(d, wanted) })
	if e != api.OK {
		return nil, place, e
	}
	return out, api.Position{}, m.assign(out, wanted)
}

// wants notes the paths to which the cells of a property refer.
func (m *model) wants(d api.Definition, wanted map[string]bool) api.Errno {
	for _, p := range d.Parts {
		if p.Kind == api.PartPath {
			if _, ok := m.path(p.Text); !ok {
				return api.ErrDangling
			}
		}
		for _, c := range p.Cells {
			if p.Kind != api.PartCells || c.Label == "" {
				continue
			}
			path, ok := m.path(c.Label)
			if !ok {
				return api.ErrDangling
			}
			wanted[path] = true
		}
	}
	return api.OK
}

// assign gives phandles to those that are wanted and have none.
func (m *model) assign(out map[string]int, wanted map[string]bool) api.Errno {
	for _, path := range m.paths() {
		if !wanted[path] || out[path] > 0 {
			continue
		}
		if len(m.properties[path]) == api.MaxProperties {
			return api.ErrLimit
		}
		n := 1
		for slices.Contains(slices.Collect(maps.Values(out)), n) {
			n++
		}
		out[path] = n
	}
	return api.OK
}

// value returns what parts say.
func (m *model) value(l []api.Part, handles map[string]int) string {
	out := ""
	for _, p := range l {
		switch p.Kind {
		case api.PartCells:
			for _, c := range p.Cells {
				n := c.Value
				if c.Label != "" {
					path, _ := m.path(c.Label)
					n = handles[path]
				}
				out += string([]byte{byte(n / 0x1000000), byte(n / 0x10000), byte(n / 0x100), byte(n)})
			}
		case api.PartString:
			out += p.Text + "\x00"
		case api.PartBytes:
			out += p.Text
		case api.PartPath:
			path, _ := m.path(p.Text)
			out += "/" + strings.TrimPrefix(path, "/") + "\x00"
		}
	}
	return out
}

// finish returns the tree when all definitions are done.
func (m *model) finish() (api.Tree, []api.Labelled, api.Position, api.Errno) {
	if len(m.open) > 0 {
		return api.Tree{}, nil, api.Position{}, api.ErrEnd
	}
	handles, place, e := m.handles()
	if e != api.OK {
		return api.Tree{}, nil, place, e
	}
	place, e = m.all(func(_ string, d api.Definition) api.Errno {
		if len(m.value(d.Parts, handles)) > api.MaxValue {
			return api.ErrLimit
		}
		return api.OK
	})
	if e != api.OK {
		return api.Tree{}, nil, place, e
	}
	x := m.tree(handles)
	var labels []api.Labelled
	for _, s := range slices.Sorted(maps.Keys(m.labels)) {
		if path, ok := m.path(s); ok {
			labels = append(labels, api.Labelled{Label: s, Node: slices.Index(m.paths(), path)})
		}
	}
	return x, labels, api.Position{}, api.OK
}

func (m *model) tree(handles map[string]int) api.Tree {
	var x api.Tree
	for _, path := range m.paths() {
		cut := strings.LastIndex(path, "/")
		n := api.Node{Parent: -1, Name: path[cut+1:]}
		if path != "" {
			n.Parent = slices.Index(m.paths(), path[:cut])
		}
		values := map[string]string{}
		for name, d := range m.properties[path] {
			values[name] = m.value(d.Parts, handles)
		}
		if h := handles[path]; h > 0 {
			values["phandle"] = string([]byte{byte(h >> 24), byte(h >> 16), byte(h >> 8), byte(h)})
		}
		for _, name := range slices.Sorted(maps.Keys(values)) {
			n.Properties = append(n.Properties, api.Property{Name: name, Value: values[name]})
		}
		x.Nodes = append(x.Nodes, n)
	}
	return x
}

// expected returns what Build must return.
func expected(l []api.Definition) (api.Tree, []api.Labelled, api.Position, api.Errno) {
	m := newModel()
	for _, d := range l {
		if f := m.faults(d); len(f) > 0 {
			return api.Tree{}, nil, d.Position, f[0]
		}
		m.carry(d)
	}
	return m.finish()
}

// asExpected holds Build against the model, and returns the error and where it is.
func asExpected(t *testing.T, l []api.Definition) (api.Position, api.Errno) {
	t.Helper()
	want, wantLabels, wantPlace, wantE := expected(l)
	got, labels, place, e := label.Build(l)
	if e != wantE || place != wantPlace || !slices.Equal(labels, wantLabels) || !tree.Same(got, want) {
		t.Fatalf("%v: %q, error %d at %v, not %q, error %d at %v", l, shown(got, labels), e, place, shown(want, wantLabels), wantE, wantPlace)
	}
	if e == api.OK && tree.Check(got) != api.OK {
		t.Fatalf("%v: error %d of tree.Check", l, tree.Check(got))
	}
	return place, e
}

// TestAllSmallLists checks all short lists of a few definitions; behind an error it does not go on.
func TestAllSmallLists(t *testing.T) {
	alphabet := []api.Definition{
		begin("", "/"), begin("l", "/"), begin("", "&l"), begin("m", "a"), begin("l", "b"), begin("", "a"), end(), remove("&l"), remove("a"),
		prop("p", cells(to("l"), to("m"))), prop("phandle", cells(num(1))), prop("p", path("m")), unset("p"),
	}
	seen := map[api.Errno]int{}
	var visit func(l []api.Definition)
	visit = func(l []api.Definition) {
		place, e := asExpected(t, l)
		seen[e]++
		if len(l) == 6 || e != api.OK && place.Line == len(l) {
			return
		}
		for _, d := range alphabet {
			visit(placed(append(slices.Clone(l), d)...))
		}
	}
	visit(nil)
	for _, e := range []api.Errno{api.OK, api.ErrSyntax, api.ErrInvalid, api.ErrDangling, api.ErrUnknown, api.ErrDuplicate, api.ErrEnd} {
		if seen[e] < 50 {
			t.Errorf("error %d occurs only %d times: %v", e, seen[e], seen)
		}
	}
}

// writer writes mixed lists of definitions.
type writer struct {
	*rand.Rand
	names    []string
	phandles int // how many numbers are written out
	wild     int // one in so many definitions with an error stays; the others are left out
}

func (w *writer) one(of ...string) string { return of[w.Intn(len(of))] }

func (w *writer) label() string { return w.one("a", "b", "c", "d", "e", "f", "g") }

func (w *writer) cell() api.Cell {
	if w.Intn(3) == 0 {
		return to(w.label())
	}
	return num([]int{0, 1, 2, 3, 0x1234, api.MaxPhandle, api.MaxCell}[w.Intn(7)])
}

// parts returns parts, of which few are long.
func (w *writer) parts() []api.Part {
	var out []api.Part
	for range w.Intn(3) {
		switch w.Intn(5) {
		case 0:
			out = append(out, path(w.label()))
		case 1:
			out = append(out, text(strings.Repeat("s", w.Intn(4)*w.Intn(20))))
		case 2:
			out = append(out, bytes(strings.Repeat("\xfe", w.Intn(4)*w.Intn(90))))
		default:
			p := cells()
			for range w.Intn(4) {
				p.Cells = append(p.Cells, w.cell())
			}
			out = append(out, p)
		}
	}
	return out
}

// any returns a definition that is often an error.
func (w *writer) any() api.Definition {
	name := w.one("/", "&a", "&b", "&x", "&", "", "9", "a", "b", "#p", "p", "phandle", "n@1", "l-1")
	d := api.Definition{Kind: w.Intn(8), Name: name, Parts: w.parts()}
	if w.Intn(3) == 0 {
		d.Label = w.one("a", "b", "x", "9", "l-1")
	}
	if w.Intn(5) == 0 {
		d.Parts = append(d.Parts, api.Part{Kind: w.Intn(7) - 1, Cells: []api.Cell{num(w.Intn(3) - 1)}})
	}
	return d
}

// next returns a definition as it can be in so many open nodes.
func (w *writer) next(open int) api.Definition {
	d, name := end(), w.names[w.Intn(len(w.names))]
	switch n := w.Intn(12); {
	case w.Intn(15) == 0:
		return w.any()
	case open == 0 && n == 0:
		return remove("&" + w.label())
	case open == 0 && n < 5:
		d = begin("", "&"+w.label())
	case open == 0:
		d = begin("", "/")
	case n < 4:
		d = begin("", name)
	case n < 7:
		return prop(name, w.parts()...)
	case n == 7:
		return prop("phandle", cells(num(1+w.Intn(w.phandles))))
	case n == 8 && w.Intn(3) == 0:
		return []api.Definition{remove(name), unset(name)}[w.Intn(2)]
	}
	if d.Kind == api.DefNode && w.Intn(2) == 0 {
		d.Label = w.label()
	}
	return d
}

// list writes a list of definitions, up to the first one with an error that stays.
func (w *writer) list(n int) []api.Definition {
	m := newModel()
	var out []api.Definition
	for range n {
		d := w.next(len(m.open))
		if len(m.faults(d)) == 0 {
			m.carry(d)
			out = append(out, d)
		} else if w.Intn(w.wild) == 0 {
			return append(out, d)
		}
	}
	if w.Intn(20) > 0 {
		out = append(out, ends(len(m.open))...)
	}
	return out
}

// TestMixedLists checks long lists: some of few nodes, and some that reach the limits.
func TestMixedLists(t *testing.T) {
	w := &writer{Rand: rand.New(rand.NewSource(1))}
	seen := map[api.Errno]int{}
	few := []string{"a", "b", "a-b", "p", "z"}
	for range 20000 {
		w.names, w.phandles, w.wild = few, 12, 60
		_, e := asExpected(t, placed(w.list(w.Intn(60))...))
		seen[e]++
	}
	many := append(strings.Split("ABCDEFGHIJKLMNOPQRSTUVWXYZ", ""), few...)
	for range 100 {
		w.names, w.phandles, w.wild = many, api.MaxPhandle, 4000
		_, e := asExpected(t, placed(w.list(1500)...))
		seen[e]++
	}
	for _, e := range []api.Errno{api.OK, api.ErrInvalid, api.ErrRange, api.ErrLimit, api.ErrUnknown, api.ErrDuplicate, api.ErrSyntax, api.ErrEnd, api.ErrDangling} {
		if seen[e] < 30 {
			t.Errorf("error %d occurs only %d times: %v", e, seen[e], seen)
		}
	}
}
