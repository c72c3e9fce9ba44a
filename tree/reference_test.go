package tree_test

import (
	"maps"
	"math/rand"
	"regexp"
	"slices"
	"strings"
	"testing"

	"bringup/api"
	"bringup/tree"
)

// model is a tree once more: the properties of each node by its path, without its last '/'. The root is "".
type model map[string]map[string]string

func (m model) path(s string) (string, bool) {
	if s == "/" {
		return "", true
	}
	return s, s != "" && m[s] != nil
}

func (m model) below(path string) int {
	return len(slices.DeleteFunc(slices.Collect(maps.Keys(m)), func(s string) bool { return !strings.HasPrefix(s, path+"/") }))
}

// walk appends a node, and those below it.
func (m model) walk(t *api.Tree, parent int, path string) {
	n := api.Node{Parent: parent, Name: path[strings.LastIndex(path, "/")+1:]}
	for _, name := range slices.Sorted(maps.Keys(m[path])) {
		n.Properties = append(n.Properties, api.Property{Name: name, Value: m[path][name]})
	}
	at := len(t.Nodes)
	t.Nodes = append(t.Nodes, n)
	for _, s := range slices.Sorted(maps.Keys(m)) {
		if rest, ok := strings.CutPrefix(s, path+"/"); ok && !strings.Contains(rest, "/") {
			m.walk(t, at, s)
		}
	}
}

func (m model) tree() api.Tree {
	var t api.Tree
	m.walk(&t, -1, "")
	return t
}

func (m model) add(path, name string) api.Errno {
	p, ok := m.path(path)
	switch {
	case !ok:
		return api.ErrUnknown
	case !nodeForm.MatchString(name):
		return api.ErrInvalid
	case m[p+"/"+name] != nil:
		return api.ErrDuplicate
	case strings.Count(p, "/") == api.MaxDepth:
		return api.ErrRange
	case len(m) == api.MaxNodes:
		return api.ErrLimit
	}
	m[p+"/"+name] = map[string]string{}
	return api.OK
}

func (m model) set(path, name, value string) api.Errno {
	p, ok := m.path(path)
	_, has := m[p][name]
	switch {
	case !ok:
		return api.ErrUnknown
	case !propertyForm.MatchString(name):
		return api.ErrInvalid
	case !has && len(m[p]) == api.MaxProperties, len(value) > api.MaxValue:
		return api.ErrLimit
	}
	m[p][name] = value
	return api.OK
}

func (m model) unset(path, name string) api.Errno {
	p, ok := m.path(path)
	if _, has := m[p][name]; !ok || !has {
		return api.ErrUnknown
	}
	delete(m[p], name)
	return api.OK
}

func (m model) remove(path string) api.Errno {
	p, ok := m.path(path)
	switch {
	case !ok:
		return api.ErrUnknown
	case p == "":
		return api.ErrInvalid
	}
	maps.DeleteFunc(m, func(s string, _ map[string]string) bool { return s == p || strings.HasPrefix(s, p+"/") })
	return api.OK
}

var (
	nodeForm     = regexp.MustCompile(`^[A-Za-z_][A-Za-z0-9_,.+?#@-]{0,30}$`)
	propertyForm = regexp.MustCompile(`^[A-Za-z_#][A-Za-z0-9_,.+?#-]{0,30}$`)
)

// expected returns what Check must return, as the chapter says it.
func expected(t api.Tree) api.Errno {
	limit := len(t.Nodes) == 0 || len(t.Nodes) > api.MaxNodes
	var invalid, order, duplicate, deep bool
	for i, n := range t.Nodes {
		limit = limit || len(n.Properties) > api.MaxProperties
		if i == 0 {
			invalid = n.Parent != -1 || n.Name != ""
		} else {
			invalid = invalid || n.Parent < 0 || n.Parent >= i || !nodeForm.MatchString(n.Name)
		}
		for j, p := range n.Properties {
			limit = limit || len(p.Value) > api.MaxValue
			invalid = invalid || !propertyForm.MatchString(p.Name)
			order = order || j > 0 && n.Properties[j-1].Name >= p.Name
		}
	}
	if !limit && !invalid {
		var walk []int
		walked(t, 0, &walk)
		order = order || !slices.IsSorted(walk)
		for i, n := range t.Nodes {
			duplicate = duplicate || slices.ContainsFunc(t.Nodes[:i], func(x api.Node) bool { return x.Parent == n.Parent && x.Name == n.Name })
			levels := 0
			for k := i; k > 0; k = t.Nodes[k].Parent {
				levels++
			}
			deep = deep || levels > api.MaxDepth
		}
	}
	for _, x := range []struct {
		is bool
		e  api.Errno
	}{{limit, api.ErrLimit}, {invalid, api.ErrInvalid}, {order, api.ErrOrder}, {duplicate, api.ErrDuplicate}, {deep, api.ErrRange}} {
		if x.is {
			return x.e
		}
	}
	return api.OK
}

// walked appends the indices of a node and those below it, in the order of a walk.
func walked(t api.Tree, node int, out *[]int) {
	*out = append(*out, node)
	var children []int
	for i, n := range t.Nodes {
		if n.Parent == node {
			children = append(children, i)
		}
	}
	slices.SortStableFunc(children, func(a, b int) int { return strings.Compare(t.Nodes[a].Name, t.Nodes[b].Name) })
	for _, i := range children {
		walked(t, i, out)
	}
}

// step is a change of a tree, and of its model.
type step struct {
	change change
	model  func(model) api.Errno
}

var names = []string{"a", "b", "c", "a-b", "a@1", "B", "#a", "p", "", "1"}

// randomStep returns a step that concerns, most of the time, a node that is there.
func randomStep(random *rand.Rand, m model) step {
	path := slices.Sorted(maps.Keys(m))[random.Intn(len(m))]
	if path == "" {
		path = "/"
	}
	if random.Intn(20) == 0 {
		path += "/a"
	}
	name, value := names[random.Intn(len(names))], strings.Repeat("v", 100*random.Intn(4))
	switch n := random.Intn(8); {
	// Nodes with much below them stay, so that the trees grow.
	case n == 0 && m.below(path) <= 3:
		return step{remove(path), func(m model) api.Errno { return m.remove(path) }}
	case n == 1:
		return step{unset(path, name), func(m model) api.Errno { return m.unset(path, name) }}
	case n <= 4:
		return step{set(path, name, value), func(m model) api.Errno { return m.set(path, name, value) }}
	}
	return step{add(path, name), func(m model) api.Errno { return m.add(path, name) }}
}

// TestManyEdits carries out many changes of trees, and holds the trees against models.
func TestManyEdits(t *testing.T) {
	random := rand.New(rand.NewSource(1))
	counts := map[api.Errno]int{}
	for range 30 {
		x, m := made(root()), model{"": {}}
		for range 400 {
			s := randomStep(random, m)
			got, e := s.change(x)
			want := s.model(m)
			counts[e]++
			if e != want || e != api.OK && len(got.Nodes) > 0 {
				t.Fatalf("%v: %v, error %d, not %d", x, got, e, want)
			}
			if e == api.OK {
				x = got
			}
			if tree.Check(x) != api.OK || !tree.Same(x, m.tree()) {
				t.Fatalf("%v, not %v", x, m.tree())
			}
		}
		asModel(t, x, m)
	}
	for _, e := range []api.Errno{api.OK, api.ErrUnknown, api.ErrInvalid, api.ErrDuplicate, api.ErrRange, api.ErrLimit} {
		if counts[e] == 0 {
			t.Errorf("error %d did not occur: %v", e, counts)
		}
	}
}

// asModel checks what can be read from a tree.
func asModel(t *testing.T, x api.Tree, m model) {
	t.Helper()
	for i, n := range x.Nodes {
		path := tree.Path(x, i)
		finds(t, x, path, i, true)
		p, ok := m.path(path)
		if !ok {
			t.Errorf("%v has no node %s", m, path)
		}
		for name, value := range m[p] {
			hasValue(t, x, i, name, value, true)
		}
		var children []string
		for _, c := range tree.Children(x, i) {
			children = append(children, x.Nodes[c].Name)
			if x.Nodes[c].Parent != i || c <= i {
				t.Errorf("%v: %d is no child of %d, %s", x, c, i, n.Name)
			}
		}
		if !slices.IsSorted(children) {
			t.Errorf("%v: children %v of %s", x, children, path)
		}
	}
}

// TestCheckOfManyTrees holds Check of trees with random defects against the chapter.
func TestCheckOfManyTrees(t *testing.T) {
	random := rand.New(rand.NewSource(2))
	counts := map[api.Errno]int{}
	for range 60000 {
		x := randomTree(random)
		checks(t, x, expected(x))
		counts[expected(x)]++
	}
	for _, e := range []api.Errno{api.OK, api.ErrInvalid, api.ErrOrder, api.ErrDuplicate, api.ErrRange} {
		if counts[e] < 20 {
			t.Errorf("error %d occurred only %d times: %v", e, counts[e], counts)
		}
	}
}

// randomTree returns a tree that is almost valid.
func randomTree(random *rand.Rand) api.Tree {
	few := []string{"a", "b", "c", "d"}
	x := made(root())
	chain := random.Intn(3) == 0
	for i := range random.Intn(12) {
		parent := random.Intn(i + 1)
		if chain && random.Intn(12) > 0 {
			parent = i
		}
		x.Nodes = append(x.Nodes, node(parent, few[random.Intn(len(few))]))
	}
	if random.Intn(30) == 0 {
		x.Nodes[random.Intn(len(x.Nodes))].Name = names[random.Intn(len(names))]
	}
	if random.Intn(30) == 0 {
		x.Nodes[random.Intn(len(x.Nodes))].Parent = random.Intn(len(x.Nodes)+2) - 1
	}
	for range random.Intn(3) {
		n := &x.Nodes[random.Intn(len(x.Nodes))]
		n.Properties = append(n.Properties, property(names[random.Intn(len(names))], ""))
	}
	return x
}
