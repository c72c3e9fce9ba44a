package blob_test

import (
	"bytes"
	"encoding/binary"
	"math/rand"
	"slices"
	"strings"
	"testing"

	"bringup/api"
	"bringup/blob"
	"bringup/tree"
)

// modelEncode writes the encoding of a valid tree once more: each node with those below it.
func modelEncode(x api.Tree) []byte {
	var names []string
	place := func(name string) int {
		at := slices.Index(names, name)
		if at < 0 {
			at = len(names)
			names = append(names, name)
		}
		return len(strings.Join(names[:at], "+")) + min(at, 1)
	}
	padded := func(s string) string { return s + strings.Repeat("\x00", (4-len(s)%4)%4) }
	var write func(at int) []byte
	write = func(at int) []byte {
		out := raw(1, padded(x.Nodes[at].Name+"\x00"))
		for _, p := range x.Nodes[at].Properties {
			out = raw(out, 3, len(p.Value), place(p.Name), padded(p.Value))
		}
		for i := range x.Nodes {
			if x.Nodes[i].Parent == at {
				out = append(out, write(i)...)
			}
		}
		return raw(out, 2)
	}
	structure := raw(write(0), 9)
	all := ""
	for _, name := range names {
		all += name + "\x00"
	}
	return headed(structure, all)
}

// fault is an error with its place; the model panics with it.
type fault struct {
	place int
	e     api.Errno
}

// must panics if something does not hold.
func must(holds bool, place int, e api.Errno) {
	if !holds {
		panic(fault{place, e})
	}
}

// model reads bytes once more, by descending into the nodes.
type model struct {
	all   []byte
	at    int
	end   int
	nodes []api.Node
}

func modelDecode(b []byte) (x api.Tree, place int, e api.Errno) {
	defer func() {
		if f, ok := recover().(fault); ok {
			x, place, e = api.Tree{}, f.place, f.e
		}
	}()
	m := &model{all: b}
	m.head()
	must(m.number() == 1, 28, api.ErrSyntax)
	m.node(-1, 0)
	must(m.number() == 9, m.at-4, api.ErrSyntax)
	must(m.at == m.end, m.at, api.ErrSyntax)
	x = api.Tree{Nodes: m.nodes}
	e = tree.Check(x)
	must(e == api.OK, 28, e)
	want := modelEncode(x)
	for i := range b {
		must(i < len(want) && b[i] == want[i], i, api.ErrOrder)
	}
	return x, 0, api.OK
}

func (m *model) head() {
	size := len(m.all)
	must(size >= 28, size, api.ErrEnd)
	var h [7]int
	for i := range h {
		h[i] = int(binary.BigEndian.Uint32(m.all[4*i:]))
	}
	must(h[0] == 0xd00dfeed, 0, api.ErrMagic)
	must(h[6] == sumOf(m.all[:24]), 24, api.ErrCheck)
	must(h[1] == 28+h[2]+h[3], 4, api.ErrRange)
	must(h[1] <= 40000, 4, api.ErrRange)
	must(h[2]%4 == 0, 4, api.ErrRange)
	must(size >= h[1], size, api.ErrEnd)
	must(size <= h[1], h[1], api.ErrRange)
	m.at, m.end = 28, 28+h[2]
	must(h[4] == sumOf(m.all[28:m.end]), 16, api.ErrCheck)
	must(h[5] == sumOf(m.all[m.end:]), 20, api.ErrCheck)
}

func (m *model) number() int {
	must(m.at+4 <= m.end, m.end, api.ErrEnd)
	m.at += 4
	return int(binary.BigEndian.Uint32(m.all[m.at-4:]))
}

// block reads so many bytes and zeros up to a multiple of 4.
func (m *model) block(size int) string {
	begin := m.at
	for m.at < begin+size || m.at%4 > 0 {
		m.at++
		must(m.at <= m.end, m.end, api.ErrEnd)
	}
	must(strings.Trim(string(m.all[begin+size:m.at]), "\x00") == "", begin, api.ErrSyntax)
	return string(m.all[begin : begin+size])
}

// node reads a node behind its 1.
func (m *model) node(parent, level int) {
	must(len(m.nodes) < 120 && level <= 8, m.at-4, api.ErrLimit)
	before, _, ok := bytes.Cut(m.all[m.at:m.end], []byte{0})
	must(ok, m.end, api.ErrEnd)
	name := m.block(len(before) + 1)
	me := len(m.nodes)
	m.nodes = append(m.nodes, api.Node{Parent: parent, Name: name[:len(before)]})
	for children := 0; ; {
		n := m.number()
		must(n == 1 || n == 2 || n == 3 && children == 0, m.at-4, api.ErrSyntax)
		switch n {
		case 1:
			children++
			m.node(me, level+1)
		case 2:
			return
		case 3:
			m.nodes[me].Properties = append(m.nodes[me].Properties, m.property())
		}
	}
}

// property reads a property behind its 3.
func (m *model) property() api.Property {
	size := m.number()
	must(size <= 256, m.at-4, api.ErrLimit)
	place := m.number()
	// Where strings begin, they are found by going through them.
	begin, name, found := 0, "", false
	for rest := string(m.all[m.end:]); rest != "" && !found; {
		var s string
		s, rest, _ = strings.Cut(rest, "\x00")
		if begin == place {
			name, found = s, true
		}
		begin += len(s) + 1
	}
	must(found, m.at-4, api.ErrRange)
	return api.Property{Name: name, Value: m.block(size)}
}

// asModel checks what bytes are decoded to, and counts the errors.
func asModel(t *testing.T, b []byte, counts map[api.Errno]int) {
	t.Helper()
	before := bytes.Clone(b)
	x, place, e := modelDecode(b)
	got, gotPlace, gotE := blob.Decode(b)
	if gotE != e || gotPlace != place || !tree.Same(got, x) {
		t.Errorf("%.600q: error %d at %d, %.300v, not error %d at %d, %.300v", b, gotE, gotPlace, got, e, place, x)
	}
	if !bytes.Equal(b, before) {
		t.Errorf("%.600q was changed", before)
	}
	if e == api.OK {
		if again, e := blob.Encode(got); e != api.OK || !bytes.Equal(again, b) {
			t.Errorf("%.600q: error %d, %.600q of its tree", b, e, again)
		}
	}
	counts[e]++
}

// occurred checks that each of these errors was there often enough to be tested.
func occurred(t *testing.T, counts map[api.Errno]int, least int, l ...api.Errno) {
	t.Helper()
	for _, e := range l {
		if counts[e] < least {
			t.Errorf("error %d occurred %d times: %v", e, counts[e], counts)
		}
	}
}

// TestAllShortStructures has all structures of a few numbers, of which some can be texts or values, too.
func TestAllShortStructures(t *testing.T) {
	numbers := []string{"\x00\x00\x00\x00", "\x00\x00\x00\x01", "\x00\x00\x00\x02", "\x00\x00\x00\x03", "\x00\x00\x00\x09", "a\x00\x00\x00", "b\x00\x00a", "abcd"}
	counts := map[api.Errno]int{}
	var fill func(structure []byte, left int)
	fill = func(structure []byte, left int) {
		asModel(t, headed(structure, "p\x00q\x00"), counts)
		if left > 0 {
			for _, s := range numbers {
				fill(raw(structure, s), left-1)
			}
		}
	}
	fill(nil, 4)
	// These go on with a root, a child of it, or a property.
	fill(raw(1, 0), 5)
	fill(raw(1, 0, 1, "a\x00\x00\x00"), 5)
	fill(raw(1, 0, 3, 0, 0), 5)
	fill(raw(1, 0, 3, 1, 0, "v\x00\x00\x00", 3), 5)
	fill(raw(1, 0, 1, "a\x00\x00\x00", 2, 1), 5)
	occurred(t, counts, 1, api.OK, api.ErrEnd, api.ErrSyntax, api.ErrLimit, api.ErrRange, api.ErrInvalid, api.ErrOrder, api.ErrDuplicate)
}

// TestAllShortStrings has trees with two properties, whose names are anywhere in all short strings.
func TestAllShortStrings(t *testing.T) {
	counts := map[api.Errno]int{}
	for length := range 6 {
		for i := range 1 << (2 * length) {
			names := make([]byte, length)
			for k := range names {
				names[k] = "\x00ab1"[i>>(2*k)&3]
			}
			for p := range length + 2 {
				for q := range length + 2 {
					asModel(t, headed(raw(1, 0, 3, 0, p, 3, 0, q, 2, 9), string(names)), counts)
				}
				asModel(t, headed(raw(1, 0, 3, 0, p, 1, "a\x00\x00\x00", 3, 0, p, 2, 2, 9), string(names)), counts)
			}
			asModel(t, headed(raw(1, 0, 2, 9), string(names)), counts)
		}
	}
	occurred(t, counts, 50, api.OK, api.ErrRange, api.ErrInvalid, api.ErrOrder)
}

// randomTree returns a valid tree.
func randomTree(random *rand.Rand, nodes, properties, size int) api.Tree {
	few := []string{"a", "b", "c", "abc", "abcd", "a@1", "B", "_x"}
	x, paths := made(root()), []string{"/"}
	for range random.Intn(nodes) {
		at := random.Intn(len(paths))
		name := few[random.Intn(len(few))]
		if y, e := tree.Add(x, paths[at], name); e == api.OK {
			x = y
			paths = append(paths, strings.TrimSuffix(paths[at], "/")+"/"+name)
		}
	}
	for range random.Intn(properties + 1) {
		name := []string{"p", "q", "#p", "a", "pp", "x,y", "B"}[random.Intn(7)]
		value := make([]byte, random.Intn(size+1))
		random.Read(value)
		if y, e := tree.Set(x, paths[random.Intn(len(paths))], name, string(value)); e == api.OK {
			x = y
		}
	}
	return x
}

func TestManyTrees(t *testing.T) {
	random := rand.New(rand.NewSource(2))
	for range 2000 {
		x := randomTree(random, 30, 30, 60)
		encodes(t, x, modelEncode(x))
	}
}

// TestDifferentTrees checks that small trees, of which many are alike, have different bytes if they differ.
func TestDifferentTrees(t *testing.T) {
	random := rand.New(rand.NewSource(3))
	trees, repeated := map[string]api.Tree{}, 0
	for range 20000 {
		x := randomTree(random, 4, 3, 1)
		b, _ := blob.Encode(x)
		other, ok := trees[string(b)]
		if ok {
			repeated++
		}
		if ok && !tree.Same(x, other) {
			t.Fatalf("%v and %v: %q", other, x, b)
		}
		trees[string(b)] = x
	}
	if repeated < 1000 || len(trees) < 1000 {
		t.Errorf("%d trees, %d repeated", len(trees), repeated)
	}
}

// changed does something to the structure or the strings of an encoding.
func changed(random *rand.Rand, structure []byte, names string) ([]byte, string) {
	few := []int{0, 1, 2, 3, 4, 5, 9, 256, 257, 1 << 31, 1<<32 - 1}
	word := func() int { return 4 * random.Intn(len(structure)/4) }
	switch random.Intn(8) {
	case 0, 1:
		binary.BigEndian.PutUint32(structure[word():], uint32(few[random.Intn(len(few))]))
	case 2:
		structure[random.Intn(len(structure))] = byte(random.Intn(4))
	case 3:
		at := word()
		structure = slices.Delete(structure, at, at+4)
	case 4:
		at := word()
		structure = slices.Insert(structure, at, raw(few[random.Intn(len(few))])...)
	case 5:
		from, to := word(), word()
		structure = raw(structure[:max(from, to)], structure[min(from, to):])
	case 6:
		structure = structure[:word()]
	case 7:
		at := random.Intn(len(names) + 1)
		names = names[:at] + []string{"", "\x00", "p\x00", "a"}[random.Intn(4)] + names[min(len(names), at+random.Intn(2)):]
	}
	return structure, names
}

// TestManyChangedTrees changes encodings, and gives them right headers again.
func TestManyChangedTrees(t *testing.T) {
	random := rand.New(rand.NewSource(4))
	counts := map[api.Errno]int{}
	for range 30000 {
		b, _ := blob.Encode(randomTree(random, 12, 12, 9))
		end := 28 + int(binary.BigEndian.Uint32(b[8:]))
		structure, names := bytes.Clone(b[28:end]), string(b[end:])
		for range 1 + random.Intn(3) {
			if len(structure) > 0 {
				structure, names = changed(random, structure, names)
			}
		}
		asModel(t, headed(structure, names), counts)
	}
	occurred(t, counts, 30, api.OK, api.ErrEnd, api.ErrSyntax, api.ErrLimit, api.ErrRange, api.ErrInvalid, api.ErrOrder, api.ErrDuplicate)
}

// TestManyHeaders has any numbers in the header, and often right check numbers.
func TestManyHeaders(t *testing.T) {
	random := rand.New(rand.NewSource(5))
	counts := map[api.Errno]int{}
	for range 30000 {
		b := headed(raw(1, 0, 3, 0, 0, 2, 9), "p\x00")
		few := []int{0, 1, 2, 3, 4, 25, 26, 27, 28, 29, 30, 32, 56, 58, 60, 40000, 40001, 1 << 31, 1<<32 - 2, 1<<32 - 1, random.Intn(1 << 32)}
		for range random.Intn(3) {
			binary.BigEndian.PutUint32(b[4*random.Intn(7):], uint32(few[random.Intn(len(few))]))
		}
		if random.Intn(3) > 0 {
			binary.BigEndian.PutUint32(b[24:], uint32(sumOf(b[:24])))
		}
		switch random.Intn(4) {
		case 0:
			b = b[:random.Intn(len(b)+1)]
		case 1:
			b = append(b, make([]byte, random.Intn(40))...)
		}
		asModel(t, b, counts)
	}
	occurred(t, counts, 30, api.OK, api.ErrEnd, api.ErrMagic, api.ErrCheck, api.ErrRange)
}

func TestRandomBytes(t *testing.T) {
	random := rand.New(rand.NewSource(6))
	counts := map[api.Errno]int{}
	for range 20000 {
		b := make([]byte, random.Intn(200))
		random.Read(b)
		asModel(t, b, counts)
		// The same as a structure and strings, in which numbers are small.
		for i := range b {
			if i%4 < 3 {
				b[i] = 0
			} else {
				b[i] %= 5
			}
		}
		end := len(b) / 8 * 4
		asModel(t, headed(b[:end], string(b[end:])), counts)
	}
	occurred(t, counts, 1000, api.ErrEnd, api.ErrMagic, api.ErrSyntax)
}
