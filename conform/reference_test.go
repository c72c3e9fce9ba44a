package conform_test

import (
	"encoding/binary"
	"math/rand"
	"regexp"
	"slices"
	"strings"
	"testing"

	"bringup/api"
	"bringup/conform"
	"bringup/schema"
	"bringup/tree"
)

var (
	stringsForm  = regexp.MustCompile(`\A([ -~]+\x00)+\z`)
	standardForm = regexp.MustCompile(`\A(compatible|phandle|status|reg|ranges|#(address|size)-cells)\z`)
)

// modelStrings returns the strings of a value once more.
func modelStrings(v string) []string {
	if !stringsForm.MatchString(v) {
		return nil
	}
	return strings.FieldsFunc(v, func(r rune) bool { return r == 0 })
}

// modelCells returns the cells of a value once more.
func modelCells(v string) []uint32 {
	var out []uint32
	if len(v)%4 == 0 {
		for c := range slices.Chunk([]byte(v), 4) {
			out = append(out, binary.BigEndian.Uint32(c))
		}
	}
	return out
}

// modelHandles returns the phandles of a tree.
func modelHandles(x api.Tree) map[uint32]bool {
	out := map[uint32]bool{}
	for _, n := range x.Nodes {
		for _, p := range n.Properties {
			if l := modelCells(p.Value); p.Name == "phandle" && len(l) == 1 && l[0] > 0 && l[0] <= 1<<20 {
				out[l[0]] = true
			}
		}
	}
	return out
}

// modelFault returns the first fault of a value by all that a rule asks for.
func modelFault(r api.Rule, v string, handles map[uint32]bool) int {
	texts, numbers := modelStrings(v), modelCells(v)
	asText, asCells := r.Kind == 4 || r.Kind == 5, r.Kind == 3 || r.Kind == 6
	out := slices.ContainsFunc(numbers, func(n uint32) bool { return int64(n) < int64(r.Low) || int64(n) > int64(r.High) })
	for _, fault := range []struct {
		kind int
		is   bool
	}{
		{2, r.Kind == 2 && len(v) > 0},
		{2, asText && len(texts) == 0},
		{2, asCells && len(numbers) == 0},
		{3, r.Kind == 4 && len(texts) != 1},
		{3, asText && r.Count > 0 && len(texts) != r.Count},
		{3, asCells && r.Count > 0 && len(numbers) != r.Count},
		{4, r.Kind == 3 && out},
		{4, r.Kind == 4 && !slices.ContainsFunc(r.Words, func(w string) bool { return w+"\x00" == v })},
		{5, r.Kind == 6 && (len(numbers) == 0 || !handles[numbers[0]])},
	} {
		if fault.is {
			return fault.kind
		}
	}
	return fits
}

// modelGoverned returns the compatible strings of a node, and the index of its schema, or -1.
func modelGoverned(n api.Node, l []api.Schema) ([]string, int) {
	for _, p := range n.Properties {
		if p.Name != "compatible" {
			continue
		}
		names := modelStrings(p.Value)
		for _, name := range names {
			for i, s := range l {
				if s.Compatible == name {
					return names, i
				}
			}
		}
		return names, -1
	}
	return nil, -1
}

// modelViolations looks for the violations of a tree once more.
func modelViolations(x api.Tree, l []api.Schema) []api.Violation {
	var out []api.Violation
	handles := modelHandles(x)
	for i, n := range x.Nodes {
		names, at := modelGoverned(n, l)
		if at < 0 {
			if len(names) > 0 {
				out = append(out, bad(7, i, names[0], ""))
			}
			continue
		}
		s, free := l[at], map[string]bool{}
		values := map[string]string{}
		for _, p := range n.Properties {
			values[p.Name] = p.Value
			free[p.Name] = !standardForm.MatchString(p.Name)
		}
		for _, r := range s.Rules {
			free[r.Name] = false
			v, ok := values[r.Name]
			if kind := modelFault(r, v, handles); ok && kind != fits {
				out = append(out, bad(kind, i, s.Compatible, r.Name))
			} else if !ok && r.Required {
				out = append(out, bad(1, i, s.Compatible, r.Name))
			}
		}
		for _, p := range n.Properties {
			if s.Closed && free[p.Name] {
				out = append(out, bad(6, i, s.Compatible, p.Name))
			}
		}
	}
	return out
}

// asModel checks all that the functions say of a tree with schemas, and returns the error.
func asModel(t *testing.T, x api.Tree, l []api.Schema) api.Errno {
	t.Helper()
	for _, e := range []api.Errno{tree.Check(x), schema.Check(l)} {
		if e != api.OK {
			fails(t, x, l, e)
			nothing(t, x, l, modelViolations(x, l))
			return e
		}
	}
	want := modelViolations(x, l)
	if len(want) > 200 {
		fails(t, x, l, api.ErrLimit)
		holds(t, x, l, want)
	} else {
		violates(t, x, l, want...)
	}
	for i, n := range x.Nodes {
		names, at := modelGoverned(n, l)
		governs(t, x, l, i, max(at, 0), at >= 0)
		isCompatible(t, x, i, names...)
	}
	for _, n := range []int{-1, len(x.Nodes)} {
		governs(t, x, l, n, 0, false)
		isCompatible(t, x, n)
	}
	if len(want) > 200 {
		return api.ErrLimit
	}
	return api.OK
}

// TestAllShortValues holds all values of a few bytes of interest against rules of all kinds.
func TestAllShortValues(t *testing.T) {
	s := open("a", rule("p", api.RuleAny), rule("p", api.RuleEmpty), ranged("p", 0, api.MaxCell, 0), ranged("p", 1, 0x61000100, 1), ranged("p", 0x00610000, 0x61616160, 0), worded("p", "a"), worded("p", "aa", "~", "a~"),
		rule("p", api.RuleText), counted("p", api.RuleText, 1), counted("p", api.RuleText, 2), rule("p", api.RuleHandle), counted("p", api.RuleHandle, 1), counted("p", api.RuleHandle, 2))
	for i := range s.Rules {
		s.Rules[i].Name = "p" + string(rune('a'+i))
	}
	counts := map[int]int{}
	var see func(v string)
	see = func(v string) {
		x := made(root(compatible("a")), node(0, "x", property("phandle", cells(1))))
		for _, r := range s.Rules {
			x.Nodes[0].Properties = append(x.Nodes[0].Properties, property(r.Name, v))
		}
		got, e := conform.Violations(x, list(s))
		if want := modelViolations(x, list(s)); e != api.OK || !slices.Equal(got, want) {
			t.Errorf("%q: %v, error %d, not %v", v, got, e, want)
		}
		for _, w := range got {
			counts[w.Kind]++
		}
		for _, b := range []byte("\x00\x01 a~\x7f") {
			if len(v) < 5 {
				see(v + string([]byte{b}))
			}
		}
	}
	see("")
	for _, first := range []string{cells(1), cells(2), "aaaa", "a\x00a\x00", "\x00\x00\x00a"} {
		for _, second := range []string{"", cells(1), cells(api.MaxCell), "aaa\x00", "a\x00~\x00", "\x00", "\x00a\x00"} {
			see(first + second)
		}
	}
	for _, kind := range []int{api.BadKind, api.BadCount, api.BadRange, api.BadHandle} {
		if counts[kind] < 50 {
			t.Errorf("%d violations of the kind %d", counts[kind], kind)
		}
	}
}

// pick returns one of the elements of a list.
func pick[T any](random *rand.Rand, l ...T) T { return l[random.Intn(len(l))] }

// propertyNames are those of the trees and schemas that are made here.
func propertyNames() []string {
	return []string{"#p", "#size-cells", "P", "p", "pp", "q", "r", "ranges", "reg", "status"}
}

// randomValue returns a value that fits some rules.
func randomValue(random *rand.Rand) string {
	switch random.Intn(4) {
	case 0:
		return pick(random, "", "\x00", "a", "\x01\x02\x03", "a\x00\x00", "\xff\xff\xff\xff\x00")
	case 1:
		var l []string
		for range 1 + random.Intn(3) {
			l = append(l, pick(random, "a", "b", "w", "okay", "disabled"))
		}
		return texts(l...)
	}
	var l []uint32
	for range 1 + random.Intn(3) {
		l = append(l, pick[uint32](random, 0, 0, 1, 1, 2, 2, 3, 4, 5, 9, 1<<20, 1<<20+1, 1<<32-1))
	}
	return cells(l...)
}

// randomTree returns a valid tree with fewer nodes than so many, of which many have compatible strings.
func randomTree(random *rand.Rand, most int) api.Tree {
	x := made(root())
	for range random.Intn(most) {
		// What cannot be added is left out.
		if y, e := tree.Add(x, tree.Path(x, random.Intn(len(x.Nodes))), pick(random, "a", "b", "c", "x@1", "y")); e == api.OK {
			x = y
		}
	}
	for i := range x.Nodes {
		l := &x.Nodes[i].Properties
		for _, name := range propertyNames() {
			if random.Intn(3) == 0 {
				*l = append(*l, property(name, randomValue(random)))
			}
		}
		if random.Intn(5) > 0 {
			var names []string
			for range 1 + random.Intn(3) {
				names = append(names, pick(random, "a", "b", "c", "d", "e"))
			}
			*l = append(*l, compatible(names...))
		} else if random.Intn(2) == 0 {
			*l = append(*l, property("compatible", randomValue(random)))
		}
		if random.Intn(3) == 0 {
			*l = append(*l, property("phandle", pick(random, cells(uint32(random.Intn(4))), cells(uint32(random.Intn(4))), cells(1<<20), cells(1<<20+1), cells(5, 5), "")))
		}
		slices.SortFunc(*l, func(p, q api.Property) int { return strings.Compare(p.Name, q.Name) })
	}
	return x
}

// randomRule returns a valid rule.
func randomRule(random *rand.Rand, name string) api.Rule {
	r := api.Rule{Name: name, Kind: 1 + random.Intn(6), Required: random.Intn(2) == 0}
	switch r.Kind {
	case api.RuleCells:
		r.Low = pick(random, 0, 1, 2, 5)
		r.High = r.Low + pick(random, 0, 1, 5, 1<<20, 1<<32-6)
	case api.RuleWord:
		r.Words = pick(random, []string{"a"}, []string{"okay", "disabled"}, []string{"w", "b"})
	}
	if r.Kind == api.RuleCells || r.Kind >= api.RuleText {
		r.Count = pick(random, 0, 0, 1, 2, 3)
	}
	return r
}

// randomSchemas returns valid schemas.
func randomSchemas(random *rand.Rand) []api.Schema {
	var out []api.Schema
	for _, name := range []string{"a", "b", "c", "d"} {
		if random.Intn(3) == 0 {
			continue
		}
		s := api.Schema{Compatible: name, Closed: random.Intn(2) == 0}
		for _, p := range propertyNames() {
			if random.Intn(2) == 0 {
				s.Rules = append(s.Rules, randomRule(random, p))
			}
		}
		out = append(out, s)
	}
	return out
}

func TestManyTrees(t *testing.T) {
	random := rand.New(rand.NewSource(10))
	errors, kinds := map[api.Errno]int{}, map[int]int{}
	for i := range 3000 {
		x, l := randomTree(random, pick(random, 2, 5, 10)), randomSchemas(random)
		if i%50 == 0 {
			x = randomTree(random, 3*api.MaxNodes)
		}
		errors[asModel(t, x, l)]++
		for _, v := range modelViolations(x, l) {
			kinds[v.Kind]++
		}
	}
	for kind := api.BadMissing; kind <= api.BadUnknown; kind++ {
		if kinds[kind] < 500 {
			t.Errorf("%d violations of the kind %d", kinds[kind], kind)
		}
	}
	if errors[api.OK] < 2000 || errors[api.ErrLimit] < 10 {
		t.Errorf("errors %v", errors)
	}
}

// TestHoldsOfAllViolations checks all violations that small trees could have.
func TestHoldsOfAllViolations(t *testing.T) {
	random := rand.New(rand.NewSource(11))
	for range 100 {
		x, l := randomTree(random, 4), randomSchemas(random)
		want := modelViolations(x, l)
		for kind := range 9 {
			for n := -1; n <= len(x.Nodes); n++ {
				for _, s := range []string{"", "a", "b", "c", "d", "e"} {
					for _, p := range append(propertyNames(), "", "compatible", "phandle") {
						if v := bad(kind, n, s, p); conform.Holds(x, l, v) != slices.Contains(want, v) {
							t.Errorf("%s: whether %v holds", shown(x, l), v)
						}
					}
				}
			}
		}
	}
}

// TestManyInvalidTrees spoils a tree or schemas, or both.
func TestManyInvalidTrees(t *testing.T) {
	random := rand.New(rand.NewSource(12))
	errors := map[api.Errno]int{}
	for range 3000 {
		x, l := randomTree(random, 6), randomSchemas(random)
		n := &x.Nodes[random.Intn(len(x.Nodes))]
		switch random.Intn(7) {
		case 0:
			n.Parent += pick(random, -2, -1, 1, 2)
		case 1:
			n.Name = pick(random, "", "A", "z", "x y", "a")
		case 2:
			n.Properties = append(n.Properties, property(pick(random, "", "a", "z", "status"), ""))
		case 3:
			n.Properties = append(n.Properties, property("z", strings.Repeat("v", api.MaxValue+random.Intn(2))))
		case 4:
			x.Nodes = append(x.Nodes, *n)
		}
		if len(l) > 0 && random.Intn(2) == 0 {
			s := &l[random.Intn(len(l))]
			switch random.Intn(4) {
			case 0:
				s.Compatible = pick(random, "", "a", "c", "z", "a a")
			case 1:
				s.Rules = append(s.Rules, randomRule(random, pick(random, "", "#", "a@b", "status", "z")))
			case 2:
				s.Rules = append(s.Rules, api.Rule{Name: "z", Kind: random.Intn(8), High: random.Intn(2), Count: random.Intn(2)})
			case 3:
				s.Rules = append(s.Rules, slices.Repeat(s.Rules, 3)...)
			}
		}
		errors[asModel(t, x, l)]++
	}
	for _, e := range []api.Errno{api.OK, api.ErrLimit, api.ErrInvalid, api.ErrOrder, api.ErrDuplicate} {
		if errors[e] < 20 {
			t.Errorf("%d times the error %d", errors[e], e)
		}
	}
}
