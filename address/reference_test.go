package address_test

import (
	"math/big"
	"math/rand"
	"strings"
	"testing"

	"bringup/address"
	"bringup/api"
	"bringup/tree"
)

// span is a region with numbers of any size.
type span struct{ base, size *big.Int }

// model is what a node says of addresses, and the first error of its cells, of its regions, and of its windows.
type model struct {
	address, size    int
	cells, reg, view api.Errno
	regions          []span
	windows          [][]*big.Int
	has, none        bool
}

// modelValue returns the value of a property, and how many there are.
func modelValue(n api.Node, name string) (string, int) {
	value, count := "", 0
	for _, p := range n.Properties {
		if p.Name == name {
			value, count = p.Value, count+1
		}
	}
	return value, count
}

// modelCells returns a number of cells, or 0.
func modelCells(n api.Node, name string) int {
	value, count := modelValue(n, name)
	switch {
	case count == 0 || value == "\x00\x00\x00\x01":
		return 1
	case value == "\x00\x00\x00\x02":
		return 2
	}
	return 0
}

// modelRows cuts a value into rows of numbers, and returns the first error.
func modelRows(value string, widths ...int) ([][]*big.Int, api.Errno) {
	var out [][]*big.Int
	for e := api.OK; ; {
		if value == "" {
			return out, e
		}
		var row []*big.Int
		for _, w := range widths {
			if len(value) < 4*w {
				return nil, api.ErrCells
			}
			row = append(row, new(big.Int).SetBytes([]byte(value[:4*w])))
			value = value[4*w:]
			if row[len(row)-1].Cmp(big.NewInt(most)) > 0 {
				e = api.ErrRange
			}
		}
		out = append(out, row)
	}
}

func sum(a, b *big.Int) *big.Int { return new(big.Int).Add(a, b) }

// modelNode reads a node and the node that is its parent, if it has one.
func modelNode(n api.Node, parent *api.Node) model {
	m := model{address: modelCells(n, "#address-cells"), size: modelCells(n, "#size-cells")}
	if m.address*m.size == 0 {
		m.cells = api.ErrCells
	}
	if parent == nil {
		return m
	}
	above := modelNode(*parent, nil)
	value, _ := modelValue(n, "reg")
	if m.reg = above.cells; m.reg == api.OK {
		rows, e := modelRows(value, above.address, above.size)
		m.reg = e
		for _, row := range rows {
			if sum(row[0], row[1]).Cmp(big.NewInt(most)) > 0 {
				m.reg = api.ErrRange
			}
			m.regions = append(m.regions, span{row[0], row[1]})
		}
	}
	value, count := modelValue(n, "ranges")
	m.has, m.none = count > 0, count > 0 && value == ""
	if m.cells == api.OK && above.cells == api.OK {
		m.windows, m.view = modelRows(value, m.address, above.address, m.size)
		for _, row := range m.windows {
			if sum(row[0], row[2]).Cmp(big.NewInt(most)) > 0 || sum(row[1], row[2]).Cmp(big.NewInt(most)) > 0 {
				m.view = api.ErrRange
			}
		}
	}
	return m
}

// modelAll reads all nodes of a tree.
func modelAll(x api.Tree) []model {
	var out []model
	for i, n := range x.Nodes {
		if i == 0 {
			out = append(out, modelNode(n, nil))
		} else {
			out = append(out, modelNode(n, &x.Nodes[n.Parent]))
		}
	}
	return out
}

// modelCheck returns the first node with an error, and that.
func modelCheck(l []model) (int, api.Errno) {
	for i, m := range l {
		for _, e := range []api.Errno{m.cells, m.reg, m.view} {
			if e != api.OK {
				return i, e
			}
		}
	}
	return 0, api.OK
}

// modelTranslate translates a region of a node step by step, and says whether it can.
func modelTranslate(x api.Tree, l []model, node int, r span) (span, bool) {
	parent := x.Nodes[node].Parent
	if parent == 0 {
		return r, true
	}
	if l[parent].none {
		return modelTranslate(x, l, parent, r)
	}
	last := r.base
	if r.size.Sign() > 0 {
		last = new(big.Int).Sub(sum(r.base, r.size), big.NewInt(1))
	}
	for _, w := range l[parent].windows {
		behind := sum(w[0], w[2])
		if r.base.Cmp(w[0]) >= 0 && r.base.Cmp(behind) < 0 && last.Cmp(behind) < 0 {
			moved := sum(w[1], new(big.Int).Sub(r.base, w[0]))
			return modelTranslate(x, l, parent, span{moved, r.size})
		}
	}
	return span{}, false
}

// number returns a number that an int can hold.
func number(t *testing.T, n *big.Int) int {
	t.Helper()
	if !n.IsInt64() {
		t.Fatalf("the number %v", n)
	}
	return int(n.Int64())
}

func (s span) region(t *testing.T) api.Region {
	t.Helper()
	return region(number(t, s.base), number(t, s.size))
}

// modelOverlaps returns the overlaps of a tree whose nodes are as described.
func modelOverlaps(t *testing.T, x api.Tree, l []model) []api.Overlap {
	t.Helper()
	var out []api.Overlap
	type seen struct {
		place api.Place
		span  span
		path  string
	}
	var all []seen
	for i, m := range l {
		for k, r := range m.regions {
			if s, ok := modelTranslate(x, l, i, r); ok {
				all = append(all, seen{api.Place{Node: i, Index: k}, s, tree.Path(x, i) + "/"})
			}
		}
	}
	for _, a := range all {
		for _, b := range all {
			apart := sum(a.span.base, a.span.size).Cmp(b.span.base) <= 0 || sum(b.span.base, b.span.size).Cmp(a.span.base) <= 0
			empty := a.span.size.Sign() == 0 || b.span.size.Sign() == 0
			if a.place.Node < b.place.Node && !strings.HasPrefix(b.path, a.path) && !apart && !empty {
				out = append(out, api.Overlap{First: a.place, Second: b.place})
			}
		}
	}
	return out
}

// result counts what the trees of a test have.
type result struct {
	errors                               map[api.Errno]int
	translated, moved, outside, overlaps int
}

// asModel checks all that the functions say of a tree.
func (c *result) asModel(t *testing.T, x api.Tree) {
	t.Helper()
	if e := tree.Check(x); e != api.OK {
		wrong(t, x, 0, e)
		for i := -1; i <= len(x.Nodes); i++ {
			failsCells(t, x, i, e)
			failsRegions(t, x, i, e)
		}
		c.errors[e]++
		return
	}
	l := modelAll(x)
	for i, m := range l {
		if m.cells == api.OK {
			hasCells(t, x, i, m.address, m.size)
		} else {
			failsCells(t, x, i, m.cells)
		}
		if m.reg != api.OK {
			failsRegions(t, x, i, m.reg)
			continue
		}
		var want []api.Region
		for _, s := range m.regions {
			want = append(want, s.region(t))
		}
		hasRegions(t, x, i, want...)
	}
	for _, i := range []int{-1, len(x.Nodes)} {
		failsCells(t, x, i, api.ErrUnknown)
		failsRegions(t, x, i, api.ErrUnknown)
	}
	i, e := modelCheck(l)
	c.errors[e]++
	if e != api.OK {
		wrong(t, x, i, e)
		return
	}
	checks(t, x, 0, api.OK)
	c.translations(t, x, l)
	want := modelOverlaps(t, x, l)
	c.overlaps += len(want)
	overlaps(t, x, want...)
}

// translations checks what all regions of a tree are translated to.
func (c *result) translations(t *testing.T, x api.Tree, l []model) {
	t.Helper()
	for i, m := range l {
		for k, r := range m.regions {
			s, ok := modelTranslate(x, l, i, r)
			switch {
			case !ok:
				c.outside++
				failsTranslate(t, x, i, k, api.ErrOutside)
			case s.base.Cmp(r.base) != 0:
				c.moved++
				translates(t, x, i, k, s.region(t))
			default:
				c.translated++
				translates(t, x, i, k, s.region(t))
			}
		}
		failsTranslate(t, x, i, -1, api.ErrUnknown)
		failsTranslate(t, x, i, len(m.regions), api.ErrUnknown)
	}
	failsTranslate(t, x, -1, 0, api.ErrUnknown)
	failsTranslate(t, x, len(x.Nodes), 0, api.ErrUnknown)
}

func pick[T any](random *rand.Rand, l ...T) T { return l[random.Intn(len(l))] }

// randomNumbers returns numbers with so many cells each, most of them small.
func randomNumbers(random *rand.Rand, widths ...int) []uint32 {
	var out []uint32
	for _, w := range widths {
		n := uint64(random.Intn(pick(random, 4, 16, 64)))
		if random.Intn(40) == 0 {
			n = pick(random, ends()...)
		}
		out = append(out, two(n)[2-w:]...)
	}
	return out
}

// randomList returns some rows of such numbers.
func randomList(random *rand.Rand, widths ...int) []uint32 {
	var out []uint32
	for range random.Intn(4) {
		out = append(out, randomNumbers(random, widths...)...)
	}
	return out
}

// randomWindows returns some elements of 'ranges' that are mostly great.
func randomWindows(random *rand.Rand, child, parent, size int) []uint32 {
	var out []uint32
	for range random.Intn(4) {
		out = append(out, randomNumbers(random, child, parent)...)
		out = append(out, two(pick[uint64](random, 0, 5, 20, 50, 100, 200))[2-size:]...)
	}
	return out
}

// randomTree returns a valid tree, in which most nodes are as described.
func randomTree(random *rand.Rand, nodes int) api.Tree {
	x := made(root())
	for range random.Intn(nodes) {
		// What cannot be added is left out.
		if y, e := tree.Add(x, tree.Path(x, random.Intn(len(x.Nodes))), pick(random, "a", "b", "c", "x@1", "y")); e == api.OK {
			x = y
		}
	}
	for i, n := range x.Nodes {
		var l []api.Property
		a, s := 1+random.Intn(2), 1+random.Intn(2)
		if a == 2 || random.Intn(2) == 0 {
			l = append(l, addresses(uint32(a)))
		}
		if s == 2 || random.Intn(2) == 0 {
			l = append(l, sizes(uint32(s)))
		}
		above, beside := 1, 1
		if i > 0 {
			above, beside = modelCells(x.Nodes[n.Parent], "#address-cells"), modelCells(x.Nodes[n.Parent], "#size-cells")
		}
		if random.Intn(5) > 0 {
			l = append(l, reg(randomList(random, above, beside)...))
		}
		if random.Intn(6) > 0 {
			l = append(l, ranges(randomWindows(random, a, above, s)...))
		}
		x.Nodes[i] = node(n.Parent, n.Name, l...)
	}
	return x
}

func TestManyTrees(t *testing.T) {
	random := rand.New(rand.NewSource(11))
	c := result{errors: map[api.Errno]int{}}
	for i := range 8000 {
		n := pick(random, 2, 5, 10)
		if i%100 == 0 {
			n = 60
		}
		c.asModel(t, randomTree(random, n))
	}
	if c.errors[api.OK] < 2000 || c.errors[api.ErrRange] < 300 || c.translated < 1000 || c.moved < 1000 || c.outside < 1000 || c.overlaps < 1000 {
		t.Errorf("%v", c)
	}
}

// TestManySpoiltTrees changes a property of a tree, or the tree, in a way that may be wrong.
func TestManySpoiltTrees(t *testing.T) {
	random := rand.New(rand.NewSource(12))
	c := result{errors: map[api.Errno]int{}}
	for range 10000 {
		x := randomTree(random, pick(random, 3, 8))
		for range 1 + random.Intn(2) {
			n := &x.Nodes[random.Intn(len(x.Nodes))]
			switch random.Intn(8) {
			case 0:
				n.Parent += pick(random, -2, -1, 1, 2)
			case 1:
				n.Name = pick(random, "", "x y", "z", "a")
			case 2:
				n.Properties = append(n.Properties, property(pick(random, "", "a", "z", "reg"), ""))
			case 3:
				x.Nodes = append(x.Nodes, *n)
			default:
				if len(n.Properties) == 0 {
					continue
				}
				v := &n.Properties[random.Intn(len(n.Properties))].Value
				at := random.Intn(len(*v) + 1)
				*v = (*v)[:at] + pick(random, "", "", "\x00", "\x01", "\xff", cells(0), cells(1, 2)) + (*v)[min(len(*v), at+random.Intn(6)):]
			}
		}
		c.asModel(t, x)
	}
	for _, e := range []api.Errno{api.OK, api.ErrInvalid, api.ErrOrder, api.ErrDuplicate, api.ErrCells, api.ErrRange} {
		if c.errors[e] < 50 {
			t.Errorf("%d times the error %d", c.errors[e], e)
		}
	}
}

// addressSet returns the addresses that a region has, or the one of its base if it is empty.
func addressSet(base, size int) []int {
	out := []int{base}
	for i := 1; i < size; i++ {
		out = append(out, base+i)
	}
	return out
}

// moved returns what each address of a region is translated to by a window, and whether all of them are.
func moved(l []int, child, parent, size int) ([]int, bool) {
	places := map[int]int{}
	for i := range size {
		places[child+i] = parent + i
	}
	var out []int
	for _, a := range l {
		to, ok := places[a]
		if !ok {
			return nil, false
		}
		out = append(out, to)
	}
	return out, true
}

// TestAllSmallWindows translates small regions by two windows, address by address.
func TestAllSmallWindows(t *testing.T) {
	var regions []uint32
	for base := range uint32(6) {
		for size := range uint32(5) {
			regions = append(regions, base, size)
		}
	}
	for i := range 6 * 4 * 6 * 4 {
		first, second := []int{i % 6, 100, i / 6 % 4}, []int{i / 24 % 6, 50, i / 144}
		x := three(nil, with(ranges(uint32(first[0]), 100, uint32(first[2]), uint32(second[0]), 50, uint32(second[2]))), with(reg(regions...)))
		for k := range len(regions) / 2 {
			base, size := int(regions[2*k]), int(regions[2*k+1])
			want, ok := moved(addressSet(base, size), first[0], first[1], first[2])
			if !ok {
				want, ok = moved(addressSet(base, size), second[0], second[1], second[2])
			}
			got, e := address.Translate(x, 2, k)
			switch {
			case !ok && (e != api.ErrOutside || got != api.Region{}):
				t.Errorf("%s: the region %d: %v, error %d, but it is outside", shown(x), k, got, e)
			case ok && (e != api.OK || got != region(want[0], size) || size > 0 && want[size-1] != got.Base+size-1):
				t.Errorf("%s: the region %d: %v, error %d, not %v", shown(x), k, got, e, want)
			}
		}
	}
}

// TestAllSmallOverlaps compares small regions address by address.
func TestAllSmallOverlaps(t *testing.T) {
	for i := range 6 * 6 * 6 * 6 {
		a, b := []uint32{uint32(i % 6), uint32(i / 6 % 6)}, []uint32{uint32(i / 36 % 6), uint32(i / 216)}
		common := map[uint32]int{}
		for _, r := range [][]uint32{a, b} {
			for k := range r[1] {
				common[r[0]+k]++
			}
		}
		var want []api.Overlap
		for _, n := range common {
			if n == 2 {
				want = []api.Overlap{overlap(1, 0, 2, 0)}
			}
		}
		overlaps(t, beside(a, b), want...)
	}
}
