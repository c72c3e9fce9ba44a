package tree_test

import (
	"strings"
	"testing"

	"bringup/api"
	"bringup/tree"
)

func isProperty(t *testing.T, s string, want bool) {
	t.Helper()
	if got := tree.Property(s); got != want {
		t.Errorf("%.40q: %v", s, got)
	}
}

func TestProperty(t *testing.T) {
	for _, s := range []string{"a", "Z", "_", "#", "##", "#1", "#a", "#-", "#,", "#_", "_1", "a9", "reg", "#address-cells", "a,b", "a.b", "a+b", "a-b", "a?b", "a#", "vendor,x-y.z+1?#"} {
		isProperty(t, s, true)
	}
	for _, s := range []string{"", "1", "1a", "-", "-a", ".", ",", "?", "+", "@", "a@", "a@1", "#@", "_@", "#a@1", " ", " a", "a ", "a b", "a:", "&a", "/", "a/b", "a=", "a;", "a\n", "\x00", "a\x00", "\x80", "\u00e9"} {
		isProperty(t, s, false)
	}
}

func TestEachCharacterOfProperties(t *testing.T) {
	const first = "abcdefghijklmnopqrstuvwxyzABCDEFGHIJKLMNOPQRSTUVWXYZ_#"
	for c := range 256 {
		s := string([]byte{byte(c)})
		isFirst := strings.Contains(first, s)
		isLater := strings.Contains(first+"0123456789,.+-?", s)
		isProperty(t, s, isFirst)
		isProperty(t, s+"a", isFirst)
		isProperty(t, s+"#", isFirst)
		for _, begin := range []string{"a", "_", "#", "##", "#a"} {
			isProperty(t, begin+s, isLater)
			isProperty(t, begin+s+"a", isLater)
		}
	}
}

func TestLengthOfPropertyNames(t *testing.T) {
	for n := 1; n <= 3*api.MaxName; n++ {
		isProperty(t, strings.Repeat("a", n), n <= api.MaxName)
		isProperty(t, strings.Repeat("#", n), n <= api.MaxName)
		isProperty(t, "#"+strings.Repeat("a", n-1), n <= api.MaxName)
		isProperty(t, "a"+strings.Repeat("@", n-1), n == 1)
	}
	isProperty(t, strings.Repeat("a", 1<<20), false)
	isProperty(t, strings.Repeat("#", 1<<20), false)
}
