package token_test

import (
	"strings"
	"testing"

	"bringup/api"
	"bringup/token"
)

// isNamed checks whether a text is a name of a node, and whether it is a label.
func isNamed(t *testing.T, s string, name, label bool) {
	t.Helper()
	if got := token.Name(s); got != name {
		t.Errorf("Name of %.40q is %v", s, got)
	}
	if got := token.Label(s); got != label {
		t.Errorf("Label of %.40q is %v", s, got)
	}
}

func TestNameAndLabel(t *testing.T) {
	for _, s := range []string{"a", "_", "Z", "a9", "_0", "Abc_Def_09"} {
		isNamed(t, s, true, true)
	}
	for _, s := range []string{"a,b", "a.b", "a+b", "a-b", "a?b", "a#b", "a@b", "cpu@1f,0", "_-", "a,.+-?#@"} {
		isNamed(t, s, true, false)
	}
	for _, s := range []string{"", "1", "1a", "0x1", "#a", "@a", "-a", ".a", ",a", "?a", "+a", " a", "a ", "a b", "a:", "&a", "a/b", "/", "a\n", "a\x00", "\x00", "a\x80", "\u00e9", "a\"", "a'"} {
		isNamed(t, s, false, false)
	}
}

func TestEachCharacterOfNames(t *testing.T) {
	const begin = "abcdefghijklmnopqrstuvwxyzABCDEFGHIJKLMNOPQRSTUVWXYZ_"
	for c := range 256 {
		s := string([]byte{byte(c)})
		first := strings.Contains(begin, s)
		inWord := strings.Contains(begin+"0123456789", s)
		inName := inWord || strings.Contains(",.+-?#@", s)
		isNamed(t, s, first, first)
		isNamed(t, s+"a", first, first)
		isNamed(t, "a"+s, inName, inWord)
		isNamed(t, "a"+s+"a", inName, inWord)
	}
}

func TestLengthOfNames(t *testing.T) {
	for n := 1; n <= 2*api.MaxName; n++ {
		isNamed(t, strings.Repeat("a", n), n <= api.MaxName, n <= api.MaxName)
		isNamed(t, "a"+strings.Repeat("-", n-1), n <= api.MaxName, n == 1)
	}
	isNamed(t, strings.Repeat("a", 1<<20), false, false)
}
