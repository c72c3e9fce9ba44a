package print_test

import (
	"encoding/binary"
	"fmt"
	"math/rand"
	"regexp"
	"slices"
	"strconv"
	"strings"
	"testing"

	"bringup/api"
	"bringup/print"
	"bringup/tree"
)

var stringsForm = regexp.MustCompile(`\A([ -~]+\x00)+\z`)

// number returns a number as chapter 2 says it.
func number(n uint32) string {
	if n < 10 {
		return fmt.Sprintf("%d", n)
	}
	return fmt.Sprintf("%#x", n)
}

func stringsOf(v string) []string {
	if !stringsForm.MatchString(v) {
		return nil
	}
	return strings.FieldsFunc(v, func(r rune) bool { return r == 0 })
}

func cellsOf(v string) []uint32 {
	var out []uint32
	if len(v)%4 == 0 {
		for c := range slices.Chunk([]byte(v), 4) {
			out = append(out, binary.BigEndian.Uint32(c))
		}
	}
	return out
}

// valueText returns the text of a value once more.
func valueText(v string) string {
	var words []string
	if v == "" {
		return ""
	}
	if l := stringsOf(v); len(l) > 0 {
		for _, s := range l {
			words = append(words, strconv.Quote(s))
		}
		return strings.Join(words, ", ")
	}
	if l := cellsOf(v); len(l) > 0 {
		for _, n := range l {
			words = append(words, number(n))
		}
		return "<" + strings.Join(words, " ") + ">"
	}
	for _, b := range []byte(v) {
		words = append(words, number(uint32(b)))
	}
	return "[" + strings.Join(words, " ") + "]"
}

// nodeText returns the lines of a node and of those below it once more.
func nodeText(x api.Tree, at int, tabs, name string) string {
	s := tabs + name + " {\n"
	for _, p := range x.Nodes[at].Properties {
		s += tabs + "\t" + p.Name
		if len(p.Value) > 0 {
			s += " = " + valueText(p.Value)
		}
		s += ";\n"
	}
	for i, n := range x.Nodes {
		if n.Parent == at {
			s += nodeText(x, i, tabs+"\t", n.Name)
		}
	}
	return s + tabs + "};\n"
}

// asModel checks all that the functions say of a value.
func asModel(t *testing.T, v string) {
	t.Helper()
	writes(t, v, valueText(v))
	if l := stringsOf(v); len(l) > 0 {
		hasStrings(t, v, l...)
	} else {
		noStrings(t, v)
	}
	if l := cellsOf(v); len(l) > 0 {
		var want []int
		for _, n := range l {
			want = append(want, int(n))
		}
		hasCells(t, v, want...)
	} else {
		noCells(t, v)
	}
}

// bytesOfInterest are those at the edges of what strings may have, and some that texts treat in a special way.
const bytesOfInterest = "\x00\x01\x0a\x1f \"\\n~\x7f\xff"

// values calls a function for all values of so many bytes of interest.
func values(length int, see func(string)) {
	b := make([]byte, length)
	var fill func(at int)
	fill = func(at int) {
		if at == length {
			see(string(b))
			return
		}
		for i := range len(bytesOfInterest) {
			b[at] = bytesOfInterest[i]
			fill(at + 1)
		}
	}
	fill(0)
}

// TestAllShortValues also checks that different values have different texts.
func TestAllShortValues(t *testing.T) {
	texts := map[string]string{}
	for length := range 6 {
		values(length, func(v string) {
			asModel(t, v)
			s := print.Value(v)
			if other, ok := texts[s]; ok {
				t.Errorf("%q and %q: %q", other, v, s)
			}
			texts[s] = v
		})
	}
	for length := 6; length <= 8; length++ {
		for i := range 1 << length {
			v := make([]byte, length)
			for k := range v {
				v[k] = "\x00a"[i>>k&1]
			}
			asModel(t, string(v))
		}
	}
}

// randomValue returns a value: almost strings, cells that are small or any bytes.
func randomValue(random *rand.Rand, most int) string {
	b := make([]byte, random.Intn(most+1))
	kind := random.Intn(4)
	for i := range b {
		switch kind {
		case 0:
			b[i] = bytesOfInterest[random.Intn(len(bytesOfInterest))]
		case 1:
			b[i] = byte(' ' + random.Intn('~'-' '+1))
			if i > 0 && b[i-1] != 0 && random.Intn(4) == 0 || i == len(b)-1 {
				b[i] = 0
			}
		case 2:
			if i%4 == 3 {
				b[i] = byte(random.Intn(20))
			}
		case 3:
			b[i] = byte(random.Intn(256))
		}
	}
	return string(b)
}

func TestManyValues(t *testing.T) {
	random := rand.New(rand.NewSource(1))
	for range 20000 {
		asModel(t, randomValue(random, api.MaxValue))
	}
}

// randomTree returns a valid tree.
func randomTree(random *rand.Rand, nodes, properties, bytes int) api.Tree {
	few := []string{"a", "b", "c", "a-b", "a@1", "B", "_x", "n#1"}
	x, paths := made(root()), []string{"/"}
	for range random.Intn(nodes) {
		at := random.Intn(len(paths))
		name := few[random.Intn(len(few))]
		if y, e := tree.Add(x, paths[at], name); e == api.OK {
			x = y
			paths = append(paths, strings.TrimSuffix(paths[at], "/")+"/"+name)
		}
	}
	for range random.Intn(properties + 1) {
		name := []string{"p", "q", "#p", "a", "B", "x,y", "r.+?"}[random.Intn(7)]
		if y, e := tree.Set(x, paths[random.Intn(len(paths))], name, randomValue(random, bytes)); e == api.OK {
			x = y
		}
	}
	return x
}

func TestManyTrees(t *testing.T) {
	random := rand.New(rand.NewSource(2))
	for range 1500 {
		x := randomTree(random, 40, 40, 40)
		prints(t, x, strings.Split(strings.TrimSuffix(nodeText(x, 0, "", "/"), "\n"), "\n")...)
	}
}

// TestManyInvalidTrees changes something in trees, so that most of them are not valid.
func TestManyInvalidTrees(t *testing.T) {
	random := rand.New(rand.NewSource(3))
	counts := map[api.Errno]int{}
	for range 3000 {
		x := clone(randomTree(random, 15, 15, 4))
		for range 1 + random.Intn(2) {
			at := random.Intn(len(x.Nodes))
			switch n := &x.Nodes[at]; random.Intn(6) {
			case 0:
				n.Parent = random.Intn(len(x.Nodes)+2) - 1
			case 1:
				n.Name = []string{"a", "b", "B", "", "1"}[random.Intn(5)]
			case 2:
				n.Properties = append(n.Properties, property([]string{"p", "z", "a@b"}[random.Intn(3)], ""))
			case 3:
				x.Nodes = append(x.Nodes, node(at, "z"), node(at, "z"))
			case 4:
				n.Properties = append(n.Properties, property("z", strings.Repeat("v", api.MaxValue+1)))
			case 5:
				for range api.MaxDepth {
					x.Nodes = append(x.Nodes, node(len(x.Nodes)-1, "d"))
				}
			}
		}
		e := tree.Check(x)
		counts[e]++
		if e != api.OK {
			fails(t, x, e)
		}
	}
	for _, e := range []api.Errno{api.ErrLimit, api.ErrInvalid, api.ErrOrder, api.ErrDuplicate, api.ErrRange} {
		if counts[e] < 20 {
			t.Errorf("error %d occurred only %d times: %v", e, counts[e], counts)
		}
	}
}

// TestDifferentTrees checks that many small trees, of which many are alike, have different texts if they differ.
func TestDifferentTrees(t *testing.T) {
	random := rand.New(rand.NewSource(4))
	trees, repeated := map[string]api.Tree{}, 0
	for range 30000 {
		x := randomTree(random, 4, 3, 2)
		s, _ := print.Tree(x)
		other, ok := trees[s]
		if ok {
			repeated++
		}
		if ok && !tree.Same(x, other) {
			t.Fatalf("%v and %v: %q", other, x, s)
		}
		trees[s] = x
	}
	if repeated < 1000 || len(trees) < 1000 {
		t.Errorf("%d trees, %d repeated", len(trees), repeated)
	}
	// Where one thing stands in place of another one.
	l := []api.Tree{
		made(root()),
		made(root(property("a", ""))),
		made(root(), node(0, "a")),
		made(root(property("a", "")), node(0, "a")),
		made(root(), node(0, "a"), node(0, "b")),
		made(root(), node(0, "a"), node(1, "b")),
		made(root(), node(0, "a", property("b", ""))),
		made(root(property("a", ""), property("b", ""))),
		made(root(property("a", "b\x00"))),
		made(root(property("a", "b\x00c\x00"))),
		made(root(property("a", "b\", \"c\x00"))),
		made(root(property("a", "b\";\n\tc = \"\x00"))),
		made(root(property("a", "b\x00"), property("c", "\x00"))),
		made(root(property("a", "\x00\x00\x00\x01"))),
		made(root(property("a", "\x01"))),
		made(root(property("a", "\x00\x01"))),
		made(root(property("a", "1\x00"))),
		made(root(property("a", "<1>\x00"))),
		made(root(property("a", "[1]\x00"))),
	}
	texts := map[string]bool{}
	for _, x := range l {
		s, e := print.Tree(x)
		if e != api.OK || texts[s] {
			t.Errorf("%v: error %d, %q", x, e, s)
		}
		texts[s] = true
	}
}
