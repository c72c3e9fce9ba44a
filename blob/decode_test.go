package blob_test

import (
	"bytes"
	"strings"
	"testing"

	"bringup/api"
	"bringup/blob"
	"bringup/tree"
)

// decodes checks the tree of bytes, which have it as their encoding.
func decodes(t *testing.T, b []byte, want api.Tree) {
	t.Helper()
	before := bytes.Clone(b)
	x, place, e := blob.Decode(b)
	if e != api.OK || place != 0 || !tree.Same(x, want) {
		t.Errorf("%.2000q: error %d at %d, %.300v, not %.300v", b, e, place, x, want)
	}
	if !bytes.Equal(b, before) {
		t.Errorf("%.2000q was changed", before)
	}
	if again, e := blob.Encode(x); e != api.OK || !bytes.Equal(again, before) {
		t.Errorf("%.2000q: error %d, %.2000q again", before, e, again)
	}
}

// rejects checks the error of bytes, and its place.
func rejects(t *testing.T, b []byte, place int, want api.Errno) {
	t.Helper()
	before := bytes.Clone(b)
	x, gotPlace, e := blob.Decode(b)
	if e != want || gotPlace != place || len(x.Nodes) > 0 {
		t.Errorf("%.2000q: error %d at %d, %.300v, not error %d at %d", b, e, gotPlace, x, want, place)
	}
	if !bytes.Equal(b, before) {
		t.Errorf("%.2000q was changed", before)
	}
}

// broken checks the error of a structure and strings with a right header; its place is counted from the beginning of the structure on.
func broken(t *testing.T, structure []byte, names string, place int, want api.Errno) {
	t.Helper()
	rejects(t, headed(structure, names), 28+place, want)
}

func TestFewerBytesThanAHeader(t *testing.T) {
	rejects(t, nil, 0, api.ErrEnd)
	b := headed(raw(1, 0, 2, 9), "")
	for n := range 28 {
		rejects(t, b[:n], n, api.ErrEnd)
		rejects(t, make([]byte, n), n, api.ErrEnd)
	}
	rejects(t, make([]byte, 28), 0, api.ErrMagic)
	rejects(t, b[:28], 28, api.ErrEnd)
}

func TestMagic(t *testing.T) {
	b := headed(raw(1, 0, 2, 9), "")
	for _, n := range []int{0, 1, 0xd00dfeec, 0xd00dfeee, 0xd10dfeed, 0xd00cfeed, 0xd00dffed, 0xedfe0dd0, 1<<32 - 1} {
		head := raw(n, b[4:24])
		rejects(t, raw(head, sumOf(head), b[28:]), 0, api.ErrMagic)
		rejects(t, raw(head, b[24:]), 0, api.ErrMagic)
	}
}

// headings is an encoding whose header is written anew with other numbers; the check number of the header is right but for wrong.
func headings(structure []byte, names string, numbers [6]int, wrong int) []byte {
	head := raw(numbers[0], numbers[1], numbers[2], numbers[3], numbers[4], numbers[5])
	return raw(head, sumOf(head)+wrong, structure, names)
}

// TestNumbersOfTheHeader has each number of a right header changed alone.
func TestNumbersOfTheHeader(t *testing.T) {
	structure, names := raw(1, 0, 3, 0, 0, 2, 9), "p\x00"
	right := [6]int{0xd00dfeed, 58, 28, 2, sumOf(structure), sumOf([]byte(names))}
	decodes(t, headings(structure, names, right, 0), made(root(property("p", ""))))
	for _, wrong := range []int{-1, 1, 256, 1 << 16, 1 << 31} {
		rejects(t, headings(structure, names, right, wrong), 24, api.ErrCheck)
	}
	for i, want := range []struct {
		place int
		e     api.Errno
	}{{0, api.ErrMagic}, {4, api.ErrRange}, {4, api.ErrRange}, {4, api.ErrRange}, {16, api.ErrCheck}, {20, api.ErrCheck}} {
		for _, more := range []int{-right[i], -4, -1, 1, 2, 3, 4, 28, 256, 1 << 16, 1 << 24, 1 << 31, 1<<32 - 1 - right[i]} {
			numbers := right
			numbers[i] = (right[i] + more) & (1<<32 - 1)
			if numbers == right {
				continue
			}
			rejects(t, headings(structure, names, numbers, 0), want.place, want.e)
			// With a wrong check number of the header this is the error, but the first number is looked at before.
			if i == 0 {
				rejects(t, headings(structure, names, numbers, 1), 0, api.ErrMagic)
			} else {
				rejects(t, headings(structure, names, numbers, 1), 24, api.ErrCheck)
			}
		}
	}
}

// TestLengthsOfTheHeader has numbers of bytes that belong together, or do not.
func TestLengthsOfTheHeader(t *testing.T) {
	for _, c := range []struct {
		total, structure, names, place int
		e                              api.Errno
	}{
		{44, 16, 0, 0, api.OK},
		{44, 0, 16, 16, api.ErrCheck},
		{44, 12, 4, 16, api.ErrCheck},
		{44, 20, -4, 4, api.ErrRange},
		{44, 15, 1, 4, api.ErrRange},
		{44, 14, 2, 4, api.ErrRange},
		{44, 13, 3, 4, api.ErrRange},
		{44, 17, -1, 4, api.ErrRange},
		{44, 16, 1, 4, api.ErrRange},
		{43, 16, 0, 4, api.ErrRange},
		{45, 16, 0, 4, api.ErrRange},
		{16, 16, 0, 4, api.ErrRange},
		{0, 0, 0, 4, api.ErrRange},
		{27, 0, -1, 4, api.ErrRange},
		{28, 0, 0, 28, api.ErrRange},
		{40, 12, 0, 40, api.ErrRange},
		{43, 12, 3, 43, api.ErrRange},
		{45, 16, 1, 44, api.ErrEnd},
		{48, 20, 0, 44, api.ErrEnd},
		{46, 18, 0, 4, api.ErrRange},
		{40000, 39972, 0, 44, api.ErrEnd},
		{40000, 16, 39956, 44, api.ErrEnd},
		{40001, 16, 39957, 4, api.ErrRange},
		{40000, 39973, -1, 4, api.ErrRange},
		{40004, 39976, 0, 4, api.ErrRange},
		{1 << 31, 1<<31 - 28, 0, 4, api.ErrRange},
		{1<<32 - 4, 1<<32 - 32, 0, 4, api.ErrRange},
		// These are sums only modulo 2^32.
		{44, 1<<32 - 4, 20, 4, api.ErrRange},
		{44, 16, 1<<32 - 16, 4, api.ErrRange},
		{44, 1 << 31, 1<<31 + 16, 4, api.ErrRange},
	} {
		structure := raw(1, 0, 2, 9)
		b := headings(structure, "", [6]int{0xd00dfeed, c.total, c.structure, c.names, sumOf(structure), 0}, 0)
		if c.e == api.OK {
			decodes(t, b, made(root()))
		} else {
			rejects(t, b, c.place, c.e)
		}
	}
}

func TestBytesAreCutOffOrGoOn(t *testing.T) {
	b := headed(raw(1, 0, 3, 3, 0, "abc\x00", 1, "a\x00\x00\x00", 2, 2, 9), "p\x00")
	for n := 28; n < len(b); n++ {
		rejects(t, b[:n], n, api.ErrEnd)
	}
	for n := 1; n < 100; n++ {
		rejects(t, raw(b, make([]byte, n)), len(b), api.ErrRange)
		rejects(t, raw(b, strings.Repeat("\xff", n)), len(b), api.ErrRange)
	}
	rejects(t, raw(b, b), len(b), api.ErrRange)
	rejects(t, raw(b, make([]byte, api.MaxBlob)), len(b), api.ErrRange)
	rejects(t, raw(b, make([]byte, 1<<24)), len(b), api.ErrRange)
}

func TestCheckNumbers(t *testing.T) {
	structure, names := raw(1, 0, 3, 0, 0, 2, 9), "p\x00"
	right := [6]int{0xd00dfeed, 58, 28, 2, sumOf(structure), sumOf([]byte(names))}
	for _, more := range []int{-1, 1, 256, 1 << 31} {
		first, second, both := right, right, right
		first[4] += more
		second[5] += more
		both[4] += more
		both[5] += more
		rejects(t, headings(structure, names, first, 0), 16, api.ErrCheck)
		rejects(t, headings(structure, names, second, 0), 20, api.ErrCheck)
		rejects(t, headings(structure, names, both, 0), 16, api.ErrCheck)
	}
	// The numbers are right, but not what they are of; this comes before what is wrong in the structure.
	rejects(t, headings(raw(0, structure[4:]), names, right, 0), 16, api.ErrCheck)
	rejects(t, headings(structure, "q\x00", right, 0), 20, api.ErrCheck)
	rejects(t, headings(raw(0, structure[4:]), "q\x00", right, 0), 16, api.ErrCheck)
}

// TestOrderOfTheErrors has bytes with all errors, of which one after the other is made good.
func TestOrderOfTheErrors(t *testing.T) {
	structure, names := raw(1, 0, 3, 257, 7, "ab", "\x00c"), "\x00p"
	n := [6]int{0, 28 + len(structure) + len(names) + 1, len(structure), len(names), 7, 7}
	all := func(wrong int) []byte { return headings(structure, names, n, wrong) }
	rejects(t, all(1)[:27], 27, api.ErrEnd)
	rejects(t, all(1), 0, api.ErrMagic)
	n[0] = 0xd00dfeed
	rejects(t, all(1), 24, api.ErrCheck)
	rejects(t, all(0), 4, api.ErrRange)
	n[1]--
	rejects(t, all(0)[:50], 50, api.ErrEnd)
	rejects(t, raw(all(0), 0), n[1], api.ErrRange)
	rejects(t, all(0), 16, api.ErrCheck)
	n[4] = sumOf(structure)
	rejects(t, all(0), 20, api.ErrCheck)
	n[5] = sumOf([]byte(names))
	rejects(t, all(0), 28+12, api.ErrLimit)
	broken(t, raw(1, 0, 3, 2, 7, "ab", "\x00c"), names, 16, api.ErrRange)
	broken(t, raw(1, 0, 3, 2, 1, "ab", "\x00c"), names, 20, api.ErrSyntax)
	broken(t, raw(1, 0, 3, 2, 1, "ab", "\x00\x00"), names, 24, api.ErrEnd)
	broken(t, raw(1, 0, 3, 2, 1, "ab", "\x00\x00", 2, 9, 9), names, 32, api.ErrSyntax)
	broken(t, raw(1, "a\x00\x00\x00", 3, 2, 1, "ab", "\x00\x00", 2, 9), names, 0, api.ErrInvalid)
	// What follows differs from the encoding in the length of the strings, and then in their order.
	structure = raw(1, 0, 3, 2, 1, "ab", "\x00\x00", 2, 9)
	rejects(t, headed(structure, "\x00p\x00"), 7, api.ErrOrder)
	rejects(t, headed(structure, "\x00p"), 19, api.ErrOrder)
	decodes(t, headed(raw(1, 0, 3, 2, 0, "ab", "\x00\x00", 2, 9), "p\x00"), made(root(property("p", "ab"))))
}

func TestResultsAreNewMemory(t *testing.T) {
	want := made(root(property("p", "value")), node(0, "name", property("q", "")))
	b, _ := blob.Encode(want)
	x, _, e := blob.Decode(b)
	clear(b)
	if e != api.OK || !tree.Same(x, want) {
		t.Errorf("error %d, %v, not %v", e, x, want)
	}
	// Lists of different nodes can grow without each other.
	b, _ = blob.Encode(want)
	x, _, _ = blob.Decode(b)
	for i := range x.Nodes {
		x.Nodes[i].Properties = append(x.Nodes[i].Properties, property("r", ""))
	}
	if len(x.Nodes) != 2 || x.Nodes[1].Properties[0] != property("q", "") {
		t.Errorf("%v", x)
	}
}
