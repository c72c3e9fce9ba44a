package schema_test

import (
	"strings"
	"testing"

	"bringup/api"
	"bringup/schema"
)

func finds(t *testing.T, l []api.Schema, compatible string, want int, there bool) {
	t.Helper()
	before := clone(l)
	i, ok := schema.Find(l, compatible)
	if i != want || ok != there {
		t.Errorf("%.300v, %q: %d, %v, not %d, %v", l, compatible, i, ok, want, there)
	}
	if !equal(l, before) {
		t.Errorf("%.300v was changed", before)
	}
}

func TestFind(t *testing.T) {
	l := ordinary()
	for i, s := range l {
		finds(t, l, s.Compatible, i, true)
	}
	for _, s := range []string{"", "a", "a,bu", "a,buss", "B", "b ", " b", "bb", "e", "#p", "q", "closed", "b closed", "\x00", strings.Repeat("b", 100)} {
		finds(t, l, s, 0, false)
		finds(t, nil, s, 0, false)
		finds(t, []api.Schema{}, s, 0, false)
		finds(t, list(made("c")), s, 0, false)
	}
	full := many(api.MaxSchemas)
	for i, s := range full {
		finds(t, full, s.Compatible, i, true)
	}
}

// TestFindAnywhere checks lists that are not valid.
func TestFindAnywhere(t *testing.T) {
	l := list(made("b"), closed("a"), made("b", rule("p", api.RuleAny)), made(""), made("a"), closed("\x00\xff", rule("", 0)), closed("b"), made(""))
	for s, want := range map[string]int{"b": 0, "a": 1, "": 3, "\x00\xff": 5} {
		finds(t, l, s, want, true)
		finds(t, l[want:], s, 0, true)
	}
	finds(t, l[1:], "b", 1, true)
	finds(t, l[3:], "b", 3, true)
	finds(t, l[2:], "a", 2, true)
	finds(t, l, "\x00", 0, false)
	long := strings.Repeat("long ", 1000)
	l = many(1000)
	finds(t, l, "s1999", 999, true)
	finds(t, l, long, 0, false)
	l[500].Compatible, l[700].Compatible = long, long
	finds(t, l, long, 500, true)
}
