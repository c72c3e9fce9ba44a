package blob_test

import (
	"bytes"
	"strconv"
	"strings"
	"testing"

	"bringup/api"
	"bringup/blob"
)

// TestStructuresThatEndTooEarly has each beginning of a structure.
func TestStructuresThatEndTooEarly(t *testing.T) {
	structure, names := raw(1, 0, 3, 5, 0, "abcde\x00\x00\x00", 3, 0, 2, 1, "abcd\x00\x00\x00\x00", 3, 4, 0, "abcd", 1, "c\x00\x00\x00", 2, 2, 2, 9), "p\x00q\x00"
	for n := 0; n < len(structure); n += 4 {
		broken(t, structure[:n], names, n, api.ErrEnd)
	}
	x := made(root(property("p", "abcde"), property("q", "")), node(0, "abcd", property("p", "abcd")), node(1, "c"))
	decodes(t, headed(structure, names), x)
	// The strings are not a part of it.
	broken(t, nil, "\x00\x00\x00\x01", 0, api.ErrEnd)
	broken(t, raw(1), "\x00\x00\x00\x00", 4, api.ErrEnd)
	broken(t, raw(1, "abcd"), "\x00\x00\x00\x00", 8, api.ErrEnd)
	broken(t, raw(1, 0, 3, 4, 0), "p\x00\x00\x00", 20, api.ErrEnd)
	broken(t, raw(1, 0, 2), "\x00\x00\x00\x09", 12, api.ErrEnd)
}

func TestTextsThatDoNotEnd(t *testing.T) {
	for n := 1; n < 200; n++ {
		s := strings.Repeat("abcd", n)
		broken(t, raw(1, s), "p\x00", 4+4*n, api.ErrEnd)
		broken(t, raw(1, 0, 1, s), "p\x00", 12+4*n, api.ErrEnd)
		// These end with the structure.
		broken(t, raw(1, s, "abc\x00"), "p\x00", 8+4*n, api.ErrEnd)
		broken(t, raw(1, 0, 1, s, "a\x00\x00\x00"), "p\x00", 16+4*n, api.ErrEnd)
	}
}

func TestValuesThatDoNotFit(t *testing.T) {
	for length := 1; length <= api.MaxValue; length++ {
		for n := 0; n < length; n += 4 {
			broken(t, raw(1, 0, 3, length, 0, make([]byte, n)), "p\x00", 20+n, api.ErrEnd)
		}
	}
}

// TestNumbersThatCannotFollow has each number in each place where only some can be.
func TestNumbersThatCannotFollow(t *testing.T) {
	property := raw(3, 0, 0)
	child := raw(1, "a\x00\x00\x00", 2)
	for _, c := range []struct {
		before []byte
		can    string
	}{
		{nil, "1"},
		{raw(1, 0), "123"},
		{raw(1, 0, property), "123"},
		{raw(1, 0, property, property), "123"},
		{raw(1, 0, child), "12"},
		{raw(1, 0, child, child), "12"},
		{raw(1, 0, property, child), "12"},
		{raw(1, 0, 1, "a\x00\x00\x00"), "123"},
		{raw(1, 0, property, 1, "a\x00\x00\x00", property), "123"},
		{raw(1, 0, 1, "a\x00\x00\x00", child), "12"},
		{raw(1, 0, 1, "a\x00\x00\x00", child, 2), "12"},
		{raw(1, 0, child, 1, "b\x00\x00\x00"), "123"},
		{raw(1, 0, child, 1, "b\x00\x00\x00", property), "123"},
		{raw(1, 0, child, 1, "b\x00\x00\x00", 2), "12"},
		{raw(1, 0, 2), "9"},
		{raw(1, 0, property, child, 2), "9"},
	} {
		for n := range 300 {
			cannot(t, c.before, n, n < 10 && strings.Contains(c.can, strconv.Itoa(n)))
		}
		for _, n := range []int{1 << 8, 2 << 8, 3 << 8, 9 << 8, 1 << 24, 2 << 24, 3 << 24, 9 << 24, 1<<31 + 1, 1<<32 - 1, 0xd00dfeed} {
			cannot(t, c.before, n, false)
		}
	}
}

// cannot checks whether a number can follow: if not, it is the error, whatever comes after it.
func cannot(t *testing.T, before []byte, n int, can bool) {
	t.Helper()
	for _, behind := range [][]byte{nil, raw(0), raw("abcd"), raw(0, 2, 9), raw(2, 9)} {
		b := headed(raw(before, n, behind), "p\x00")
		if !can {
			rejects(t, b, 28+len(before), api.ErrSyntax)
		} else if _, place, e := blob.Decode(b); e == api.ErrSyntax && place == 28+len(before) {
			t.Errorf("%q: %d cannot follow", b, n)
		}
	}
}

func TestBytesBehindTexts(t *testing.T) {
	for length := range 9 {
		name := strings.Repeat("n", length)
		for zeros := 1; zeros <= 4; zeros++ {
			rest := 4 - (length+zeros)%4
			if rest == 4 || zeros+rest > 4 {
				continue
			}
			for _, s := range []string{"\x01", "n", "\xff"} {
				text := name + strings.Repeat("\x00", zeros) + strings.Repeat(s, rest)
				broken(t, raw(1, text, 2, 9), "", 4, api.ErrSyntax)
				broken(t, raw(1, text), "", 4, api.ErrSyntax)
				broken(t, raw(1, 0, 1, text, 2, 2, 9), "", 12, api.ErrSyntax)
				broken(t, raw(1, 0, 3, 0, 0, 1, "a\x00\x00\x00", 1, text, 2, 2, 2, 9), "p\x00", 32, api.ErrSyntax)
			}
		}
	}
	// One byte alone, the others are zero.
	for i := 1; i < 4; i++ {
		text := []byte{0, 0, 0, 0}
		text[i] = 1
		broken(t, raw(1, text, 2, 9), "", 4, api.ErrSyntax)
	}
	// Four zero bytes more are no part of a text.
	broken(t, raw(1, "\x00\x00\x00\x00", "\x00\x00\x00\x00", 2, 9), "", 8, api.ErrSyntax)
	broken(t, raw(1, 0, 1, "abc\x00", "\x00\x00\x00\x00", 2, 2, 9), "", 16, api.ErrSyntax)
}

func TestBytesBehindValues(t *testing.T) {
	for length := range 10 {
		size := (length + 3) / 4 * 4
		for i := length; i < size; i++ {
			for _, c := range []byte{1, 'v', 255} {
				block := make([]byte, size)
				block[i] = c
				broken(t, raw(1, 0, 3, length, 0, block, 2, 9), "p\x00", 20, api.ErrSyntax)
				broken(t, raw(1, 0, 3, length, 0, block), "p\x00", 20, api.ErrSyntax)
				broken(t, raw(1, 0, 1, "a\x00\x00\x00", 3, 0, 0, 3, length, 2, block, 2, 2, 9), "p\x00q\x00", 40, api.ErrSyntax)
			}
		}
		// Zero bytes more are no part of a value.
		broken(t, raw(1, 0, 3, length, 0, make([]byte, size), 0, 2, 9), "p\x00", 20+size, api.ErrSyntax)
	}
}

func TestLongValues(t *testing.T) {
	for _, length := range []int{api.MaxValue + 1, api.MaxValue + 2, api.MaxValue + 4, 300, 1000, 1 << 16, 1 << 24, 1 << 31, 1<<32 - 4, 1<<32 - 1} {
		block := make([]byte, min(length+3, 1000)/4*4)
		broken(t, raw(1, 0, 3, length, 0, block, 2, 9), "p\x00", 12, api.ErrLimit)
		broken(t, raw(1, 0, 3, 0, 0, 3, length, 2, block, 2, 9), "p\x00q\x00", 24, api.ErrLimit)
		// Its name is read later, and so is what it consists of.
		broken(t, raw(1, 0, 3, length, 7, block, 2, 9), "p\x00", 12, api.ErrLimit)
		broken(t, raw(1, 0, 3, length, 0), "p\x00", 12, api.ErrLimit)
		broken(t, raw(1, 0, 3, length), "p\x00", 12, api.ErrLimit)
	}
	decodes(t, headed(raw(1, 0, 3, 256, 0, make([]byte, 256), 2, 9), "p\x00"), made(root(property("p", strings.Repeat("\x00", 256)))))
}

func TestPlacesOfNames(t *testing.T) {
	for _, c := range []struct{ names, begin string }{
		{"", ""},
		{"p\x00", "0"},
		{"p", "0"},
		{"\x00", "0"},
		{"p\x00q\x00", "02"},
		{"pq\x00", "0"},
		{"p\x00q", "02"},
		{"p\x00\x00q\x00", "023"},
		{"\x00\x00", "01"},
		{"abc\x00de\x00f\x00", "047"},
	} {
		for place := range 20 {
			has := place < 10 && strings.Contains(c.begin, strconv.Itoa(place))
			named(t, c.names, place, has)
		}
		for _, place := range []int{28, 56, 1 << 8, 2 << 8, 1 << 24, 1 << 31, 1<<32 - 2, 1<<32 - 1} {
			named(t, c.names, place, false)
		}
	}
	// The value is read later.
	broken(t, raw(1, 0, 3, 4, 1), "p\x00", 16, api.ErrRange)
	broken(t, raw(1, 0, 3, 1, 1, "abcd", 2, 9), "p\x00", 16, api.ErrRange)
}

// named checks whether a string begins at a place.
func named(t *testing.T, names string, place int, has bool) {
	t.Helper()
	b := headed(raw(1, 0, 3, 0, place, 2, 9), names)
	if !has {
		rejects(t, b, 28+16, api.ErrRange)
		rejects(t, headed(raw(1, 0, 1, "a\x00\x00\x00", 3, 4, place, 0, 2, 2, 9), names), 28+24, api.ErrRange)
	} else if _, place, e := blob.Decode(b); e == api.ErrRange {
		t.Errorf("%q: error %d at %d", b, e, place)
	}
}

// TestNamesThatAreStrings checks how far names go by the errors of their trees.
func TestNamesThatAreStrings(t *testing.T) {
	one := raw(1, 0, 3, 0, 0, 2, 9)
	decodes(t, headed(one, "p\x00"), made(root(property("p", ""))))
	decodes(t, headed(one, "pq\x00"), made(root(property("pq", ""))))
	decodes(t, headed(one, strings.Repeat("p", api.MaxName)+"\x00"), made(root(property(strings.Repeat("p", api.MaxName), ""))))
	broken(t, one, strings.Repeat("p", api.MaxName+1)+"\x00", 0, api.ErrInvalid)
	broken(t, one, "\x00", 0, api.ErrInvalid)
	broken(t, one, "\x00p\x00", 0, api.ErrInvalid)
	broken(t, one, "p@1\x00", 0, api.ErrInvalid)
	broken(t, one, "1\x00", 0, api.ErrInvalid)
	broken(t, one, "1", 0, api.ErrInvalid)
}

func TestTooManyNodes(t *testing.T) {
	nodes := func(n int) []byte { return bytes.Repeat(raw(1, "a\x00\x00\x00", 2), n) }
	full := raw(1, 0, nodes(api.MaxNodes-1))
	broken(t, raw(full, 1, "a\x00\x00\x00", 2, 2, 9), "", len(full), api.ErrLimit)
	broken(t, raw(full, 1, "abcd"), "", len(full), api.ErrLimit)
	broken(t, raw(full, 1), "", len(full), api.ErrLimit)
	broken(t, raw(full, nodes(1000), 2, 9), "", len(full), api.ErrLimit)
	// As many as there can be, but they have the same name.
	broken(t, raw(full, 2, 9), "", 0, api.ErrDuplicate)
	structure := raw(1, 0)
	for i := range api.MaxNodes - 1 {
		structure = raw(structure, 1, "n"+strconv.Itoa(1000+i), "\x00\x00\x00", 2)
	}
	decodes(t, headed(raw(structure, 2, 9), ""), wide(api.MaxNodes-1))
	broken(t, raw(structure, 1, "z\x00\x00\x00", 2, 2, 9), "", len(structure), api.ErrLimit)
}

func TestNodesThatAreTooDeep(t *testing.T) {
	begin := raw(1, "d\x00\x00\x00")
	deepest := raw(1, 0, bytes.Repeat(begin, api.MaxDepth))
	decodes(t, headed(raw(deepest, bytes.Repeat(raw(2), api.MaxDepth+1), 9), ""), deep(api.MaxDepth))
	broken(t, raw(deepest, begin, bytes.Repeat(raw(2), api.MaxDepth+2), 9), "", len(deepest), api.ErrLimit)
	broken(t, raw(deepest, bytes.Repeat(begin, 1000)), "", len(deepest), api.ErrLimit)
	broken(t, raw(deepest, 1), "", len(deepest), api.ErrLimit)
	// Nodes that have ended do not count.
	broken(t, raw(deepest, 2, 2, begin, begin, begin), "", len(deepest)+24, api.ErrLimit)
	x := deep(api.MaxDepth)
	for i := range api.MaxDepth {
		x.Nodes = append(x.Nodes, node(i, "z"))
	}
	wanted := made(x.Nodes[:api.MaxDepth+1]...)
	// From the innermost node on, each one that ends is followed by a child of the one around it.
	structure := raw(deepest, 2)
	for i := api.MaxDepth - 1; i >= 0; i-- {
		wanted.Nodes = append(wanted.Nodes, node(i, "z"))
		structure = raw(structure, 1, "z\x00\x00\x00", 2, 2)
	}
	decodes(t, headed(raw(structure, 9), ""), wanted)
}

func TestStructuresThatGoOn(t *testing.T) {
	for _, b := range [][]byte{raw(1, 0, 2, 9), raw(1, 0, 3, 0, 0, 1, "a\x00\x00\x00", 2, 2, 9), raw(1, "a\x00\x00\x00", 2, 9)} {
		for n := range 12 {
			broken(t, raw(b, n), "p\x00", len(b), api.ErrSyntax)
			broken(t, raw(b, n, 9), "p\x00", len(b), api.ErrSyntax)
		}
		broken(t, raw(b, b), "p\x00", len(b), api.ErrSyntax)
		broken(t, raw(b, "abcd"), "p\x00", len(b), api.ErrSyntax)
	}
}

// TestTreesThatCheckRefuses has what only tree.Check finds.
func TestTreesThatCheckRefuses(t *testing.T) {
	a, b := raw(1, "a\x00\x00\x00", 2), raw(1, "b\x00\x00\x00", 2)
	broken(t, raw(1, "a\x00\x00\x00", 2, 9), "", 0, api.ErrInvalid)
	broken(t, raw(1, 0, 1, 0, 2, 2, 9), "", 0, api.ErrInvalid)
	broken(t, raw(1, 0, 1, "1\x00\x00\x00", 2, 2, 9), "", 0, api.ErrInvalid)
	broken(t, raw(1, 0, 1, strings.Repeat("n", 32), 0, 2, 2, 9), "", 0, api.ErrInvalid)
	broken(t, raw(1, 0, 1, strings.Repeat("n", 30000), 0, 2, 2, 9), "", 0, api.ErrInvalid)
	broken(t, raw(1, 0, b, a, 2, 9), "", 0, api.ErrOrder)
	broken(t, raw(1, 0, a, a, 2, 9), "", 0, api.ErrDuplicate)
	broken(t, raw(1, 0, a, b, a, 2, 9), "", 0, api.ErrOrder)
	broken(t, raw(1, 0, 3, 0, 0, 3, 0, 0, 2, 9), "p\x00", 0, api.ErrOrder)
	broken(t, raw(1, 0, 3, 0, 0, 3, 0, 2, 2, 9), "p\x00p\x00", 0, api.ErrOrder)
	broken(t, raw(1, 0, 3, 0, 0, 3, 0, 2, 2, 9), "q\x00p\x00", 0, api.ErrOrder)
	// Its strings are not right, either, but this comes first.
	broken(t, raw(1, 0, 3, 0, 2, 3, 0, 0, 2, 9), "p\x00q\x00", 0, api.ErrOrder)
	structure, names := raw(1, 0), ""
	for i := range api.MaxProperties + 1 {
		if i == api.MaxProperties {
			decodes(t, headed(raw(structure, 2, 9), names), made(root(many(api.MaxProperties, "")...)))
		}
		structure = raw(structure, 3, 0, len(names))
		names += "p" + strconv.Itoa(1000+i) + "\x00"
	}
	broken(t, raw(structure, 2, 9), names, 0, api.ErrLimit)
	// As many as there is room for.
	broken(t, raw(1, 0, bytes.Repeat(raw(3, 0, 0), 3000), 2, 9), "p\x00", 0, api.ErrLimit)
}

// TestOtherOrdersOfStrings has bytes from which a valid tree can be read, but which are not its encoding.
func TestOtherOrdersOfStrings(t *testing.T) {
	structure := func(p, q int) []byte { return raw(1, 0, 3, 0, p, 3, 1, q, "v\x00\x00\x00", 2, 9) }
	x := made(root(property("p", ""), property("q", "v")))
	decodes(t, headed(structure(0, 2), "p\x00q\x00"), x)
	for _, c := range []struct {
		p, q  int
		names string
		place int
	}{
		// The check number of the structure differs first.
		{2, 0, "q\x00p\x00", 19},
		{1, 3, "\x00p\x00q", 18},
		// Strings that are not used, empty ones, those that occur twice, and one that does not end: there are more bytes, or fewer.
		{0, 2, "p\x00q\x00r\x00", 7},
		{2, 4, "r\x00p\x00q\x00", 7},
		{0, 4, "p\x00r\x00q\x00", 7},
		{0, 2, "p\x00q\x00\x00", 7},
		{1, 3, "\x00p\x00q\x00", 7},
		{0, 4, "p\x00p\x00q\x00", 7},
		{2, 4, "p\x00p\x00q\x00", 7},
		{0, 2, "p\x00q\x00p\x00q\x00", 7},
		{0, 2, "p\x00q", 7},
	} {
		rejects(t, headed(structure(c.p, c.q), c.names), c.place, api.ErrOrder)
	}
	// A tree without properties has no strings.
	for _, names := range []string{"p\x00", "\x00", "p"} {
		rejects(t, headed(raw(1, 0, 2, 9), names), 7, api.ErrOrder)
	}
	// The numbers of bytes have the same last byte here.
	rejects(t, headed(raw(1, 0, 2, 9), strings.Repeat("p", 256)), 6, api.ErrOrder)
}

// TestDifferencesInTheStructure has strings in another order, and all check numbers that those in the right order have, too.
func TestDifferencesInTheStructure(t *testing.T) {
	structure := func(ad, bc int) []byte {
		return raw(1, 0, 3, 12, ad, "            ", 3, 0, bc, 1, "m\x00\x00\x00", 3, 0, bc, 2, 1, "n\x00\x00\x00", 3, 0, ad, 2, 2, 9)
	}
	right, other := headed(structure(0, 3), "ad\x00bc\x00"), headed(structure(3, 0), "bc\x00ad\x00")
	if !bytes.Equal(right[:28], other[:28]) {
		t.Fatalf("%q and %q", right[:28], other[:28])
	}
	decodes(t, right, made(root(property("ad", "            "), property("bc", "")), node(0, "m", property("bc", "")), node(0, "n", property("ad", ""))))
	rejects(t, other, 28+19, api.ErrOrder)
}

// TestEncodingsThatWouldBeTooLong has strings of which the last one does not end: with its end there is one byte more than MaxBlob.
func TestEncodingsThatWouldBeTooLong(t *testing.T) {
	for _, more := range []int{-1, 0, 1} {
		b := modelEncode(sized(api.MaxBlob + more))
		end := 28 + int(b[10])<<8 + int(b[11])
		cut := headed(b[28:end], string(b[end:len(b)-1]))
		rejects(t, cut, 7, api.ErrOrder)
	}
}
