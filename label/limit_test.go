package label_test

import (
	"strconv"
	"strings"
	"testing"

	"bringup/api"
	"bringup/label"
)

// chain opens the root and so many nodes, one in the other, with the labels l1 and so on.
func chain(n int) []api.Definition {
	out := []api.Definition{begin("", "/")}
	for i := range n {
		out = append(out, begin("l"+strconv.Itoa(i+1), "n"))
	}
	return out
}

// ends ends so many nodes.
func ends(n int) []api.Definition {
	var out []api.Definition
	for range n {
		out = append(out, end())
	}
	return out
}

// wide opens the root, which gets so many children.
func wide(n int) []api.Definition {
	out := []api.Definition{begin("", "/")}
	for i := range n {
		name := strconv.Itoa(i + 1)
		out = append(out, begin("l"+name, "n"+name), end())
	}
	return out
}

// full opens the root, which gets so many properties.
func full(n int) []api.Definition {
	out := []api.Definition{begin("r", "/")}
	for i := range n {
		out = append(out, prop("p"+strconv.Itoa(i+1)))
	}
	return out
}

// has checks how many nodes definitions give, and how many properties the last one has.
func has(t *testing.T, l []api.Definition, nodes, properties int) {
	t.Helper()
	x, _, p, e := label.Build(l)
	if e != api.OK || len(x.Nodes) != nodes || len(x.Nodes[nodes-1].Properties) != properties {
		t.Errorf("%.300v: %.300v, error %d at %v", l, x, e, p)
	}
}

func TestTheGreatestDepth(t *testing.T) {
	for n := range api.MaxDepth + 1 {
		has(t, append(chain(n), ends(n+1)...), n+1, 0)
	}
	stops(t, api.ErrRange, append(chain(api.MaxDepth), begin("", "n"))...)
	stops(t, api.ErrRange, append(chain(api.MaxDepth), begin("l", "n"))...)
	// Nodes that labels open are as deep as they are.
	for n := range api.MaxDepth + 1 {
		l := append(append(chain(api.MaxDepth), ends(api.MaxDepth+1)...), begin("", "&l"+strconv.Itoa(max(n, 1))))
		for range api.MaxDepth - max(n, 1) {
			l = append(l, begin("", "m"))
		}
		stops(t, api.ErrRange, append(l, begin("", "m"))...)
	}
	deep := "/ { " + strings.Repeat("n { ", 7) + "l: n { p; "
	builds(t, deep+strings.Repeat("}; ", 9)+"&l { q; };", "/", "/n", "/n/n", "/n/n/n", "/n/n/n/n", "/n/n/n/n/n", "/n/n/n/n/n/n", "/n/n/n/n/n/n/n", `/n/n/n/n/n/n/n/n p="" q=""`, "&l /n/n/n/n/n/n/n/n")
	failsAt(t, deep+strings.Repeat("}; ", 9)+"\n&l { n { }; };", 2, 6, api.ErrRange)
	failsAt(t, deep+strings.Repeat("}; ", 9)+"\n&l { m: n { }; };", 2, 6, api.ErrRange)
}

func TestTheDepthOfWhatIsThere(t *testing.T) {
	// To open what is there once more makes nothing deeper.
	l := append(chain(api.MaxDepth), ends(api.MaxDepth+1)...)
	l = append(append(l, chain(api.MaxDepth)...), ends(api.MaxDepth+1)...)
	has(t, placed(l...), api.MaxDepth+1, 0)
	// Ends go up again.
	l = append(chain(api.MaxDepth), end(), begin("", "m"), end(), remove("n"), begin("", "a"), prop("p"))
	has(t, append(l, ends(api.MaxDepth+1)...), api.MaxDepth+2, 0)
	stops(t, api.ErrRange, append(l, begin("", "b"))...)
}

func TestMostNodes(t *testing.T) {
	const most = api.MaxNodes - 1
	has(t, append(wide(most), end()), api.MaxNodes, 0)
	stops(t, api.ErrLimit, append(wide(most), begin("", "m"))...)
	stops(t, api.ErrLimit, append(wide(most), begin("m", "m"))...)
	stops(t, api.ErrLimit, append(wide(most), begin("", "n1"), begin("", "m"))...)
	stops(t, api.ErrLimit, append(wide(most), end(), begin("", "&l7"), begin("", "m"))...)
	// To open one that is there is no new node.
	has(t, append(wide(most), begin("", "n1"), end(), begin("l2", "n2"), prop("p"), end(), end(), begin("", "&l9"), end()), api.MaxNodes, 0)
	// A node that is too deep is so before it is one too many.
	l := append(wide(most-api.MaxDepth), end(), begin("", "/"))
	for range api.MaxDepth {
		l = append(l, begin("", "x"))
	}
	stops(t, api.ErrRange, append(l[:len(l):len(l)], begin("", "x"))...)
	stops(t, api.ErrLimit, append(l[:len(l):len(l)], end(), begin("", "y"))...)
	has(t, append(l, ends(api.MaxDepth+1)...), api.MaxNodes, 0)
}

func TestNodesThatAreGoneDoNotCount(t *testing.T) {
	const most = api.MaxNodes - 1
	has(t, append(wide(most), remove("n5"), begin("", "m"), end(), end()), api.MaxNodes, 0)
	stops(t, api.ErrLimit, append(wide(most), remove("n5"), begin("", "m"), begin("", "m"))...)
	has(t, append(wide(most), end(), remove("&l5"), begin("", "/"), begin("", "m"), end(), end()), api.MaxNodes, 0)
	// All that is below a node goes with it.
	l := append(wide(most-api.MaxDepth+1), begin("", "n1"))
	for range api.MaxDepth - 1 {
		l = append(l, begin("", "m"))
	}
	l = append(append(l, ends(api.MaxDepth)...), remove("n1"))
	for i := range api.MaxDepth {
		l = append(l, begin("", "o"+strconv.Itoa(i)), end())
	}
	has(t, append(l[:len(l):len(l)], end()), api.MaxNodes, 0)
	stops(t, api.ErrLimit, append(l, begin("", "x"))...)
	// The same node can be made and removed as often as one likes.
	l = wide(most - 1)
	for range 1000 {
		l = append(l, begin("x", "x"), end(), remove("x"))
	}
	has(t, append(l, end()), most, 0)
}

func TestMostProperties(t *testing.T) {
	const most = api.MaxProperties
	has(t, append(full(most), end()), 1, most)
	stops(t, api.ErrLimit, append(full(most), prop("p0"))...)
	stops(t, api.ErrLimit, append(full(most), prop("phandle", cells(num(1))))...)
	stops(t, api.ErrLimit, append(full(most), end(), begin("", "&r"), prop("p0"))...)
	// Those that are there can be set again, and those that are deleted do not count.
	has(t, append(full(most), prop("p1"), prop("p24", text("s")), end()), 1, most)
	has(t, append(full(most), unset("p1"), prop("p0"), end()), 1, most)
	stops(t, api.ErrLimit, append(full(most), unset("p1"), prop("p0"), prop("p1"))...)
	// It is a node that has so many, not all of them.
	l := append(full(most), begin("", "a"))
	l = append(append(l, full(most)[1:]...), begin("", "b"))
	l = append(append(l, full(most)[1:]...), ends(3)...)
	has(t, placed(l...), 3, most)
}

// TestMostPropertiesWithPhandles checks that a phandle that is assigned is one of them.
func TestMostPropertiesWithPhandles(t *testing.T) {
	const most = api.MaxProperties
	refers := prop("p1", cells(to("r")))
	has(t, append(full(most-1), refers, end()), 1, most)
	fails(t, placed(append(full(most), refers, end())...), api.Position{}, api.ErrLimit)
	fails(t, placed(append(full(most), end(), begin("", "/"), begin("", "a"), refers, end(), end())...), api.Position{}, api.ErrLimit)
	// One that is written out is there already, and a path needs none.
	has(t, append(full(most-1), prop("phandle", cells(num(9))), refers, end()), 1, most)
	has(t, append(full(most), prop("p1", path("r")), end()), 1, most)
}

// TestLongLists checks that lists of any length are gone through in a short time.
func TestLongLists(t *testing.T) {
	const many = 40000
	l := []api.Definition{begin("", "/")}
	for i := range many {
		l = append(l, begin("l"+strconv.Itoa(i), "a"), end())
	}
	for i := range many {
		l = append(l, begin("m"+strconv.Itoa(i), "x"), end(), remove("x"), prop("p", cells(num(i))))
	}
	l = append(l, end())
	x, labels, _, e := label.Build(l)
	if e != api.OK || len(labels) != many || len(x.Nodes) != 2 {
		t.Errorf("error %d, %d labels, %d nodes", e, len(labels), len(x.Nodes))
	}
	// Parts that are far too many, and nodes that are open.
	var parts []api.Part
	for range many {
		parts = append(parts, path("l1"))
	}
	l[len(l)-1] = prop("q", parts...)
	fails(t, l, api.Position{}, api.ErrEnd)
	fails(t, placed(append(l, end())...), place(len(l)-1), api.ErrLimit)
}
