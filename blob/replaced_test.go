package blob_test

import (
	"bytes"
	"math/rand"
	"strings"
	"testing"

	"bringup/api"
	"bringup/blob"
)

// replaced checks the error of an encoding in which the byte at an index is another one.
func replaced(t *testing.T, b []byte, at int, c byte) {
	t.Helper()
	if b[at] == c {
		return
	}
	out := bytes.Clone(b)
	out[at] = c
	end := 28 + int(b[10])<<8 + int(b[11])
	switch {
	case at < 4:
		rejects(t, out, 0, api.ErrMagic)
	case at < 28:
		rejects(t, out, 24, api.ErrCheck)
	case at < end:
		rejects(t, out, 16, api.ErrCheck)
	default:
		rejects(t, out, 20, api.ErrCheck)
	}
}

// TestEachReplacedByte puts each other byte in the place of each one.
func TestEachReplacedByte(t *testing.T) {
	for _, x := range []api.Tree{
		made(root()),
		made(root(property("p", "\x00\x00\x00\x10"))),
		made(root(property("#n", "\x00\x00\x01\x02"), property("b", "")), node(0, "cpu@0", property("b", "x\x00")), node(1, "l2c"), node(0, "uart", property("#n", "abcde"), property("a", "\x00"))),
		deep(api.MaxDepth),
		made(root(property("p", strings.Repeat("\x00", 40)), property("q", strings.Repeat("\xff", 40)))),
	} {
		b, e := blob.Encode(x)
		if e != api.OK {
			t.Fatalf("%v: error %d", x, e)
		}
		for at := range b {
			for c := range 256 {
				replaced(t, b, at, byte(c))
			}
		}
	}
}

// TestReplacedBytesOfLongEncodings has sums that are far beyond 2^32.
func TestReplacedBytesOfLongEncodings(t *testing.T) {
	random := rand.New(rand.NewSource(7))
	b, e := blob.Encode(sized(api.MaxBlob))
	if e != api.OK {
		t.Fatalf("error %d", e)
	}
	for range 3000 {
		replaced(t, b, random.Intn(len(b)), byte(random.Intn(256)))
	}
	for _, at := range []int{0, 27, 28, 29, len(b) - 2, len(b) - 1} {
		for c := range 256 {
			replaced(t, b, at, byte(c))
		}
	}
}

func TestReplacedBytesOfManyTrees(t *testing.T) {
	random := rand.New(rand.NewSource(8))
	for range 1000 {
		b, _ := blob.Encode(randomTree(random, 20, 20, 20))
		for range 50 {
			replaced(t, b, random.Intn(len(b)), byte(random.Intn(256)))
		}
	}
}

// TestEncodingsAreCutOffOrContinued cuts each encoding at each length, and continues it with several bytes.
func TestEncodingsAreCutOffOrContinued(t *testing.T) {
	random := rand.New(rand.NewSource(9))
	for range 100 {
		b, _ := blob.Encode(randomTree(random, 10, 10, 20))
		for n := range b {
			rejects(t, b[:n], n, api.ErrEnd)
		}
		for c := range 256 {
			rejects(t, raw(b, []byte{byte(c)}), len(b), api.ErrRange)
		}
		more := make([]byte, 1+random.Intn(100))
		random.Read(more)
		rejects(t, raw(b, more), len(b), api.ErrRange)
		rejects(t, raw(b, b), len(b), api.ErrRange)
		other, _ := blob.Encode(randomTree(random, 10, 10, 20))
		rejects(t, raw(b, other), len(b), api.ErrRange)
	}
	b, _ := blob.Encode(sized(api.MaxBlob))
	for n := 0; n < len(b); n += 997 {
		rejects(t, b[:n], n, api.ErrEnd)
		rejects(t, raw(b, b[:n+1]), len(b), api.ErrRange)
	}
}

// TestBytesThatAreNoEncoding has all kinds of bytes that could be given by mistake.
func TestBytesThatAreNoEncoding(t *testing.T) {
	for _, s := range []string{"/ {\n\tp = <1>;\n\tq = \"text that is long enough\";\n};\n", strings.Repeat("\x00", 100), strings.Repeat("\xff", 100), strings.Repeat("\x00\x00\x00\x01", 1000), strings.Repeat("a", 100000)} {
		rejects(t, []byte(s), 0, api.ErrMagic)
	}
	// The usual form of flattened trees begins in the same way.
	rejects(t, raw(0xd00dfeed, 72, 56, 64, 40, 17, 16, 0, 0, 8, 0, 0, 0, 0, 1, 0, 2, 9), 24, api.ErrCheck)
	rejects(t, raw(strings.Repeat("\xd0\x0d\xfe\xed", 7)), 24, api.ErrCheck)
	rejects(t, raw(0xd00dfeed, make([]byte, 24)), 24, api.ErrCheck)
	// Two encodings after each other, one behind another byte, and the numbers with the least significant byte first.
	b, _ := blob.Encode(made(root()))
	rejects(t, raw("\x00", b), 0, api.ErrMagic)
	rejects(t, b[1:], 0, api.ErrMagic)
	rejects(t, b[28:], 16, api.ErrEnd)
	turned := bytes.Clone(b)
	for i := range turned {
		turned[i] = b[i/4*4+3-i%4]
	}
	rejects(t, turned, 0, api.ErrMagic)
}
