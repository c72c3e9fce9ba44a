package label_test

import (
	"math"
	"strings"
	"testing"

	"bringup/api"
)

// others are kinds that are none of definitions for this layer.
var others = []int{math.MinInt, -1, 0, api.DefInclude, api.DefInclude + 1, 100, math.MaxInt}

// noNames are texts that are no names of nodes, and noLabels some that are no labels.
var (
	noNames  = []string{"", "/", "/a", "&", "&a", "9", "-a", "#a", "@", ".", "a b", "a:", "a/b", "a\x00", "\xff", strings.Repeat("a", api.MaxName+1), strings.Repeat("a", 1<<20)}
	noLabels = []string{"9", "a-b", "a@1", "#a", "a,b", "&", "&a", "/", "a b", " ", "a:", "\x00", "a\x80", strings.Repeat("l", api.MaxName+1), strings.Repeat("l", 1<<20)}
)

func TestKindsThatAreNone(t *testing.T) {
	for _, k := range others {
		for _, d := range []api.Definition{{Kind: k}, {Kind: k, Name: "/"}, {Kind: k, Name: "a"}, {Kind: k, Name: "&l"}} {
			stops(t, api.ErrSyntax, d)
			stops(t, api.ErrSyntax, begin("l", "/"), end(), d)
			stops(t, api.ErrSyntax, begin("l", "/"), d)
			stops(t, api.ErrSyntax, begin("l", "/"), begin("", "a"), d)
		}
	}
	failsAt(t, "/ { };\n /include/ \"a\";", 2, 2, api.ErrSyntax)
}

func TestWhatNeedsAnOpenNode(t *testing.T) {
	for _, d := range []api.Definition{end(), prop("p"), prop("p", cells(num(1))), unset("p"), prop(""), unset("@")} {
		stops(t, api.ErrSyntax, d)
		stops(t, api.ErrSyntax, begin("l", "/"), prop("p"), end(), d)
		stops(t, api.ErrSyntax, begin("l", "/"), begin("", "a"), end(), end(), d)
		stops(t, api.ErrSyntax, begin("", "/"), begin("l", "a"), begin("", "b"), end(), end(), end(), begin("", "&l"), end(), d)
		stops(t, api.ErrSyntax, begin("", "/"), begin("l", "a"), end(), end(), remove("&l"), d)
	}
}

func TestNamesAtTheTop(t *testing.T) {
	for _, name := range []string{"", "a", "//", "/a", "/ ", "&", "&&l", "& l", "&l ", "l", "&/", "a&l", "l&"} {
		stops(t, api.ErrSyntax, begin("", name))
		stops(t, api.ErrSyntax, remove(name))
		stops(t, api.ErrSyntax, begin("l", "/"), end(), begin("", name))
		stops(t, api.ErrSyntax, begin("l", "/"), end(), remove(name))
	}
	for _, s := range noLabels {
		stops(t, api.ErrSyntax, begin("", "&"+s))
		stops(t, api.ErrSyntax, remove("&"+s))
	}
	// Nothing removes the root by its name.
	stops(t, api.ErrSyntax, remove("/"))
	stops(t, api.ErrSyntax, begin("l", "/"), end(), remove("/"))
}

func TestKindsOfParts(t *testing.T) {
	for _, k := range []int{math.MinInt, -1, 0, api.PartPath + 1, 100, math.MaxInt} {
		bad := api.Part{Kind: k, Text: "l", Cells: []api.Cell{num(1)}}
		stops(t, api.ErrSyntax, begin("l", "/"), prop("p", bad))
		stops(t, api.ErrSyntax, begin("l", "/"), prop("p", text("s"), bad))
		stops(t, api.ErrSyntax, begin("l", "/"), prop("p", bad, path("l")))
		stops(t, api.ErrSyntax, begin("l", "/"), prop("phandle", bad))
		stops(t, api.ErrSyntax, begin("l", "/"), prop("p"), prop("p", bad))
	}
}

func TestNamesThatAreNone(t *testing.T) {
	for _, name := range noNames {
		stops(t, api.ErrInvalid, begin("l", "/"), begin("", name))
		stops(t, api.ErrInvalid, begin("l", "/"), remove(name))
		stops(t, api.ErrInvalid, begin("l", "/"), begin("", "a"), begin("", name))
	}
	for _, name := range []string{"", "/", "&l", "9", "-a", "a@1", "@", "a b", "a:", "\x00", strings.Repeat("a", api.MaxName+1), "#" + strings.Repeat("a", api.MaxName), strings.Repeat("a", 1<<20)} {
		stops(t, api.ErrInvalid, begin("l", "/"), prop(name))
		stops(t, api.ErrInvalid, begin("l", "/"), unset(name))
	}
	// Names of nodes are not those of properties, and not the other way round.
	gives(t, placed(begin("", "/"), prop("#p"), begin("", "a@1"), end(), end()), `/ #p=""`, "/a@1")
	long := strings.Repeat("n", api.MaxName)
	gives(t, placed(begin(long, "/"), prop(long), begin("", long), end(), end(), begin("", "&"+long), remove(long), unset(long), end()), "/", "&"+long+" /")
}

func TestLabelsThatAreNone(t *testing.T) {
	for _, s := range noLabels {
		stops(t, api.ErrInvalid, begin(s, "/"))
		stops(t, api.ErrInvalid, begin("l", "/"), begin(s, "a"))
		stops(t, api.ErrInvalid, begin("l", "/"), end(), begin(s, "&l"))
		stops(t, api.ErrInvalid, begin("l", "/"), begin("", "a"), end(), begin(s, "a"))
	}
}

// TestLabelsOfOtherDefinitions checks those to which the document gives no meaning: they are labels all the same, and are given to nothing.
func TestLabelsOfOtherDefinitions(t *testing.T) {
	with := func(d api.Definition, label string) api.Definition {
		d.Label = label
		return d
	}
	for _, s := range []string{"9", "a-b", strings.Repeat("l", api.MaxName+1)} {
		for _, d := range []api.Definition{end(), prop("q"), unset("p"), remove("a")} {
			stops(t, api.ErrInvalid, begin("", "/"), prop("p"), begin("", "a"), end(), with(d, s))
		}
	}
	gives(t, placed(begin("l", "/"), with(prop("p"), "l"), with(prop("q"), "m"), with(unset("q"), "n"), begin("", "a"), end(), with(remove("a"), "l"), with(end(), "o")), `/ p=""`, "&l /")
}

func TestLabelsThatStandForNothing(t *testing.T) {
	for _, d := range []api.Definition{begin("", "&x"), remove("&x"), begin("l", "&x"), begin("x", "&x")} {
		stops(t, api.ErrDangling, d)
		stops(t, api.ErrDangling, begin("l", "/"), prop("x"), begin("", "x"), end(), end(), d)
		// The node is gone: by its name, by its label, and with the one that it was in.
		stops(t, api.ErrDangling, begin("", "/"), begin("x", "a"), end(), remove("a"), end(), d)
		stops(t, api.ErrDangling, begin("", "/"), begin("x", "a"), end(), end(), remove("&x"), d)
		stops(t, api.ErrDangling, begin("", "/"), begin("", "a"), begin("", "b"), begin("x", "c"), end(), end(), end(), remove("a"), end(), d)
		stops(t, api.ErrDangling, begin("", "/"), begin("m", "a"), begin("x", "b"), end(), end(), end(), remove("&m"), d)
		// One with the same name is another one.
		stops(t, api.ErrDangling, begin("", "/"), begin("x", "a"), end(), remove("a"), begin("", "a"), end(), end(), d)
	}
	// Labels that come later do not count, and nor do small letters for great ones.
	failsAt(t, "/ { };\n&a { };\n/ { a: x { }; };", 2, 1, api.ErrDangling)
	failsAt(t, "/ { a: x { }; };\n&A { };", 2, 1, api.ErrDangling)
	failsAt(t, "/ { a: x { }; };\n  /delete-node/ &a; /delete-node/ &a;", 2, 21, api.ErrDangling)
}

func TestWhatIsNotThere(t *testing.T) {
	for _, d := range []api.Definition{unset("x"), remove("x")} {
		stops(t, api.ErrUnknown, begin("x", "/"), d)
		stops(t, api.ErrUnknown, begin("x", "/"), prop("xx"), begin("", "y"), end(), d)
		// It is there, but in another node.
		stops(t, api.ErrUnknown, begin("", "/"), prop("x"), begin("", "x"), begin("", "y"), prop("x"), begin("", "x"), end(), end(), begin("", "z"), d)
	}
	// Nodes are no properties.
	stops(t, api.ErrUnknown, begin("", "/"), begin("", "x"), end(), unset("x"))
	stops(t, api.ErrUnknown, begin("", "/"), prop("x"), remove("x"))
	// It was there.
	stops(t, api.ErrUnknown, begin("", "/"), prop("x"), unset("x"), unset("x"))
	stops(t, api.ErrUnknown, begin("", "/"), begin("", "x"), end(), remove("x"), remove("x"))
	stops(t, api.ErrUnknown, begin("", "/"), begin("x", "x"), end(), end(), remove("&x"), begin("", "/"), remove("x"))
	stops(t, api.ErrUnknown, begin("", "/"), begin("", "x"), prop("p"), end(), remove("x"), begin("", "x"), unset("p"))
	// A phandle that is assigned is not there before the end.
	stops(t, api.ErrUnknown, begin("r", "/"), prop("p", cells(to("r"))), unset("phandle"))
}

func TestLabelsOfAnotherNode(t *testing.T) {
	stops(t, api.ErrDuplicate, begin("l", "/"), begin("l", "a"))
	stops(t, api.ErrDuplicate, begin("", "/"), begin("l", "a"), end(), begin("l", "b"))
	stops(t, api.ErrDuplicate, begin("", "/"), begin("l", "a"), end(), begin("", "b"), end(), begin("l", "b"))
	stops(t, api.ErrDuplicate, begin("", "/"), begin("l", "a"), begin("l", "b"))
	stops(t, api.ErrDuplicate, begin("", "/"), begin("l", "a"), begin("l", "a"))
	stops(t, api.ErrDuplicate, begin("", "/"), begin("", "a"), begin("l", "b"), end(), end(), begin("l", "a"))
	stops(t, api.ErrDuplicate, begin("", "/"), begin("l", "a"), end(), end(), begin("l", "/"))
	stops(t, api.ErrDuplicate, begin("m", "/"), begin("l", "a"), end(), end(), begin("l", "&m"))
	stops(t, api.ErrDuplicate, begin("m", "/"), begin("l", "a"), end(), end(), begin("m", "&l"))
	// A node that has a label already is no exception, and nor is a label given twice.
	stops(t, api.ErrDuplicate, begin("", "/"), begin("l", "a"), end(), begin("l", "a"), end(), begin("m", "b"), end(), begin("l", "b"))
	// The first node is gone, and the label was given to a second one.
	stops(t, api.ErrDuplicate, begin("", "/"), begin("l", "a"), end(), remove("a"), begin("l", "b"), end(), begin("l", "a"))
	failsAt(t, "/ {\n\tl: a { };\n\tb { l: c { }; };\n};", 3, 6, api.ErrDuplicate)
}

func TestTheRootStays(t *testing.T) {
	stops(t, api.ErrInvalid, begin("r", "/"), end(), remove("&r"))
	stops(t, api.ErrInvalid, begin("", "/"), end(), begin("r", "/"), begin("", "a"), end(), end(), remove("&r"))
	stops(t, api.ErrInvalid, begin("l", "/"), end(), begin("r", "&l"), end(), remove("&r"))
	failsAt(t, "r: / { a { }; };\n /delete-node/ &r;", 2, 2, api.ErrInvalid)
}

// TestTheErrorsOfADefinition checks the order in which they are sought, for definitions that have two of them.
func TestTheErrorsOfADefinition(t *testing.T) {
	bad := api.Part{Kind: 9}
	odd := func(d api.Definition) api.Definition {
		d.Parts = []api.Part{bad}
		return d
	}
	// ErrSyntax comes before ErrInvalid.
	stops(t, api.ErrSyntax, begin("9", "x"))
	stops(t, api.ErrSyntax, begin("9", "&9"))
	stops(t, api.ErrSyntax, begin("", "/"), api.Definition{Kind: 9, Name: "@", Label: "9"})
	stops(t, api.ErrSyntax, begin("", "/"), prop("@", bad))
	stops(t, api.ErrSyntax, prop("@"))
	stops(t, api.ErrSyntax, begin("", "/"), odd(begin("9", "a")))
	stops(t, api.ErrSyntax, begin("", "/"), odd(begin("", "#")))
	// Both come before ErrDangling and ErrUnknown.
	stops(t, api.ErrSyntax, odd(begin("", "&x")))
	stops(t, api.ErrSyntax, odd(remove("&x")))
	stops(t, api.ErrSyntax, begin("", "/"), odd(unset("x")))
	stops(t, api.ErrSyntax, begin("", "/"), odd(remove("x")))
	stops(t, api.ErrInvalid, begin("9", "&x"))
	stops(t, api.ErrInvalid, begin("", "/"), unset("x@1"))
	stops(t, api.ErrInvalid, begin("", "/"), remove("#x"))
	// ErrDangling comes before ErrDuplicate.
	stops(t, api.ErrDangling, begin("r", "/"), end(), begin("r", "&x"))
	// The other ones come before ErrRange and ErrLimit.
	stops(t, api.ErrInvalid, append(chain(api.MaxDepth), begin("", "#"))...)
	stops(t, api.ErrInvalid, append(chain(api.MaxDepth), begin("9", "a"))...)
	stops(t, api.ErrInvalid, append(wide(api.MaxNodes-1), begin("", "#"))...)
	stops(t, api.ErrDuplicate, append(chain(api.MaxDepth), begin("l1", "a"))...)
	stops(t, api.ErrDuplicate, append(wide(api.MaxNodes-1), begin("l1", "a"))...)
	stops(t, api.ErrInvalid, append(full(api.MaxProperties), prop("@"))...)
	stops(t, api.ErrSyntax, append(full(api.MaxProperties), prop("more", bad))...)
}

// TestTheFirstDefinitionCounts puts each two errors one after the other.
func TestTheFirstDefinitionCounts(t *testing.T) {
	start := []api.Definition{begin("r", "/"), begin("l", "a"), end()}
	faults := []struct {
		d api.Definition
		e api.Errno
	}{
		{api.Definition{Kind: api.DefInclude, Name: "a"}, api.ErrSyntax},
		{prop("p", api.Part{}), api.ErrSyntax},
		{prop("@"), api.ErrInvalid},
		{begin("9", "a"), api.ErrInvalid},
		{unset("x"), api.ErrUnknown},
		{remove("x"), api.ErrUnknown},
		{begin("l", "b"), api.ErrDuplicate},
	}
	for _, a := range faults {
		for _, b := range faults {
			l := append(append(start[:len(start):len(start)], a.d), b.d, end())
			fails(t, placed(l...), place(len(start)), a.e)
		}
	}
	closed := append(start[:len(start):len(start)], end())
	for _, a := range []struct {
		d api.Definition
		e api.Errno
	}{{end(), api.ErrSyntax}, {begin("", "a"), api.ErrSyntax}, {begin("", "&x"), api.ErrDangling}, {begin("r", "&l"), api.ErrDuplicate}, {remove("&r"), api.ErrInvalid}} {
		for _, b := range faults {
			fails(t, placed(append(closed[:len(closed):len(closed)], a.d, b.d)...), place(len(closed)), a.e)
		}
	}
}

// TestErrorsWithoutPositions checks that they need not differ.
func TestErrorsWithoutPositions(t *testing.T) {
	fails(t, []api.Definition{end()}, api.Position{}, api.ErrSyntax)
	fails(t, []api.Definition{begin("", "/"), prop("@")}, api.Position{}, api.ErrInvalid)
	odd := api.Position{File: -1, Line: math.MinInt, Column: math.MaxInt}
	fails(t, []api.Definition{{Kind: api.DefEnd, Position: odd}}, odd, api.ErrSyntax)
}
