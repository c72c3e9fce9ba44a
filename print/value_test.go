package print_test

import (
	"slices"
	"strings"
	"testing"

	"bringup/api"
	"bringup/print"
)

// writes checks the text of a value.
func writes(t *testing.T, v, want string) {
	t.Helper()
	if got := print.Value(v); got != want {
		t.Errorf("%.300q: %.300q, not %.300q", v, got, want)
	}
}

// reads checks that a value can be read as a list.
func reads[T comparable](t *testing.T, read func(string) ([]T, bool), v string, want []T) {
	t.Helper()
	for range 2 {
		got, ok := read(v)
		if !ok || !slices.Equal(got, want) {
			t.Errorf("%.300q: %t, %.300v, not %.300v", v, ok, got, want)
		}
		// A change of one result does not concern the next one.
		clear(got)
	}
}

// reject checks that values cannot be read as lists.
func reject[T any](t *testing.T, read func(string) ([]T, bool), values []string) {
	t.Helper()
	for _, v := range values {
		if got, ok := read(v); ok || len(got) > 0 {
			t.Errorf("%.300q: %t, %.300v", v, ok, got)
		}
	}
}

func hasStrings(t *testing.T, v string, want ...string) {
	t.Helper()
	reads(t, print.Strings, v, want)
}

func hasCells(t *testing.T, v string, want ...int) {
	t.Helper()
	reads(t, print.Cells, v, want)
}

func noStrings(t *testing.T, values ...string) {
	t.Helper()
	reject(t, print.Strings, values)
}

func noCells(t *testing.T, values ...string) {
	t.Helper()
	reject(t, print.Cells, values)
}

func TestTheEmptyValue(t *testing.T) {
	writes(t, "", "")
	noStrings(t, "")
	noCells(t, "")
}

func TestStrings(t *testing.T) {
	hasStrings(t, "a\x00", "a")
	hasStrings(t, "abc\x00", "abc")
	hasStrings(t, "a\x00bc\x00d\x00", "a", "bc", "d")
	hasStrings(t, "a\x00a\x00", "a", "a")
	hasStrings(t, " \x00  \x00", " ", "  ")
	hasStrings(t, "~\x00", "~")
	hasStrings(t, "a, \"b\"\x00\\\x00", "a, \"b\"", "\\")
	hasStrings(t, strings.Repeat("v", api.MaxValue-1)+"\x00", strings.Repeat("v", api.MaxValue-1))
	var all string
	for c := ' '; c <= '~'; c++ {
		all += string(c)
		hasStrings(t, string(c)+"\x00", string(c))
	}
	hasStrings(t, all+"\x00", all)
}

func TestValuesThatAreNoStrings(t *testing.T) {
	// The last byte is not zero.
	noStrings(t, "a", "abcd", "a\x00b", "a\x00b\x00c", "\x00a", " ")
	// There is a text without a byte.
	noStrings(t, "\x00", "\x00\x00", "a\x00\x00", "\x00a\x00", "a\x00\x00b\x00", "a\x00b\x00\x00", "\x00\x00a\x00", "\x00\x00\x00\x00")
	for c := range 256 {
		if c == 0 || c >= ' ' && c <= '~' {
			continue
		}
		b := string([]byte{byte(c)})
		noStrings(t, b+"\x00", "a"+b+"\x00", b+"a\x00", "a\x00"+b+"\x00", b+"\x00a\x00", b)
	}
	noStrings(t, "\u00e9\x00", "a\nb\x00", "\t\x00")
}

func TestCells(t *testing.T) {
	hasCells(t, "\x00\x00\x00\x00", 0)
	hasCells(t, "\x00\x00\x00\x01", 1)
	hasCells(t, "\x01\x02\x03\x04", 0x1020304)
	hasCells(t, "\x00\x01\x00\x00\x00\x00\x02\x00\x03\x00\x00\x00", 1<<16, 2<<8, 3<<24)
	hasCells(t, "\x7f\xff\xff\xff\x80\x00\x00\x00", 1<<31-1, 1<<31)
	hasCells(t, "\xff\xff\xff\xff", api.MaxCell)
	hasCells(t, "\xff\xff\xff\xfe\x00\x00\x00\x00\xff\xff\xff\xff", api.MaxCell-1, 0, api.MaxCell)
	hasCells(t, strings.Repeat("\x00\x00\x01\x00", api.MaxValue/4), slices.Repeat([]int{256}, api.MaxValue/4)...)
	// They are cells, also if they can be written as strings.
	hasCells(t, "abc\x00", 0x61626300)
	hasCells(t, "a\x00b\x00", 0x61006200)
	hasCells(t, "abcd", 0x61626364)
	for n := range 40 {
		if n%4 != 0 {
			noCells(t, strings.Repeat("\x00", n), strings.Repeat("a", n), strings.Repeat("\xff", n))
		}
	}
}

func TestTextsOfStrings(t *testing.T) {
	writes(t, "a\x00", `"a"`)
	writes(t, "abcde\x00", `"abcde"`)
	writes(t, "a\x00b c\x00d\x00", `"a", "b c", "d"`)
	writes(t, " \x00~\x00", `" ", "~"`)
	writes(t, "\"\x00", `"\""`)
	writes(t, "\\\x00", `"\\"`)
	writes(t, "a\"b\\c\x00", `"a\"b\\c"`)
	writes(t, "\\\"\x00\"\\\x00", `"\\\"", "\"\\"`)
	writes(t, "\\\\\"\"\x00", `"\\\\\"\""`)
	writes(t, "\\n\\x41\x00", `"\\n\\x41"`)
	writes(t, "', '\x00//\x00/* */\x00", `"', '", "//", "/* */"`)
	// Strings come before cells.
	writes(t, "abc\x00", `"abc"`)
	writes(t, "a\x00b\x00", `"a", "b"`)
	writes(t, "a\x00b\x00c\x00d\x00", `"a", "b", "c", "d"`)
}

func TestTextsOfCells(t *testing.T) {
	writes(t, "\x00\x00\x00\x00", "<0>")
	writes(t, "\x00\x00\x00\x09", "<9>")
	writes(t, "\x00\x00\x00\x0a", "<0xa>")
	writes(t, "\x00\x00\x00\x10", "<0x10>")
	writes(t, "\xff\xff\xff\xff", "<0xffffffff>")
	writes(t, "\x00\x00\x00\x01\x00\x00\x00\x00\xde\xad\xbe\xef", "<1 0 0xdeadbeef>")
	// These cannot be written as strings.
	writes(t, "abcd", "<0x61626364>")
	writes(t, "a\x00\x00\x00", "<0x61000000>")
	writes(t, "\x00ab\x00", "<0x616200>")
	writes(t, "a\x00\x00b\x00\x00\x00\x00", "<0x61000062 0>")
	writes(t, "ab\x1f\x00", "<0x61621f00>")
	writes(t, "ab\x7f\x00", "<0x61627f00>")
	writes(t, "abc\x00\x01\x02\x03\x04", "<0x61626300 0x1020304>")
}

func TestTextsOfBytes(t *testing.T) {
	writes(t, "\x00", "[0]")
	writes(t, "\x09", "[9]")
	writes(t, "\x0a", "[0xa]")
	writes(t, "\xff", "[0xff]")
	writes(t, "a", "[0x61]")
	writes(t, "\x00\x00", "[0 0]")
	writes(t, "\x01\x7f\x80", "[1 0x7f 0x80]")
	writes(t, "\x00\x00\x00\x00\x00", "[0 0 0 0 0]")
	writes(t, "a\x00\x00", "[0x61 0 0]")
	writes(t, "\x1f\x00", "[0x1f 0]")
	writes(t, "\x7f\x00", "[0x7f 0]")
	writes(t, "a\x00b", "[0x61 0 0x62]")
	writes(t, "abcdefg", "[0x61 0x62 0x63 0x64 0x65 0x66 0x67]")
	writes(t, "\u00e9\x00", "[0xc3 0xa9 0]")
}

// TestLongValues has values that are too long for a property; these functions do not mind.
func TestLongValues(t *testing.T) {
	const n = 100000
	text := strings.Repeat("v", 4*n)
	writes(t, text+"\x00", `"`+text+`"`)
	hasStrings(t, text+"\x00", text)
	writes(t, strings.Repeat("v\x00", n), strings.TrimSuffix(strings.Repeat(`"v", `, n), ", "))
	hasStrings(t, strings.Repeat("v\x00", n), slices.Repeat([]string{"v"}, n)...)
	writes(t, strings.Repeat("\x00\x00\x01\x00", n), "<"+strings.TrimSuffix(strings.Repeat("0x100 ", n), " ")+">")
	hasCells(t, text, slices.Repeat([]int{0x76767676}, n)...)
	writes(t, strings.Repeat("\x02", n+1), "["+strings.TrimSuffix(strings.Repeat("2 ", n+1), " ")+"]")
	noStrings(t, text, strings.Repeat("\x00", n), strings.Repeat("v\x00", n)+"\x00")
	noCells(t, text+"\x00", text+"vvv")
}
