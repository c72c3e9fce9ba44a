package print

import (
	"strings"

	"bringup/api"
)

// lines returns the lines of the nodes of a valid tree.
func lines(nodes []api.Node) string {
	var out strings.Builder
	open := 0 // how many nodes are
	line := func(s string) {
		for range open {
			out.WriteByte('\t')
		}
		out.WriteString(s)
		out.WriteByte('\n')
	}
	end := func(depth int) {
		for open > depth {
			open--
			line("};")
		}
	}
	depths := make([]int, len(nodes))
	for i, n := range nodes {
		name := "/"
		if i > 0 {
			name = n.Name
			depths[i] = depths[n.Parent] + 1
		}
		end(depths[i])
		line(name + " {")
		open++
		for _, p := range n.Properties {
			line(property(p))
		}
	}
	end(0)
	return out.String()
}

// property returns what stands in the line of a property.
func property(p api.Property) string {
	if p.Value == "" {
		return p.Name + ";"
	}
	return p.Name + " = " + Value(p.Value) + ";"
}
