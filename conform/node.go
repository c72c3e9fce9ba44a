package conform

import (
	"slices"

	"bringup/api"
	"bringup/print"
	"bringup/schema"
)

// compatibleName is the name of the property with the compatible strings.
const compatibleName = "compatible"

// standard are the properties that a node may have with each schema.
var standard = [...]string{compatibleName, "phandle", "status", "reg", "ranges", "#address-cells", "#size-cells"}

// isStandard reports whether a property is one of those.
func isStandard(name string) bool {
	for _, s := range standard {
		if s == name {
			return true
		}
	}
	return false
}

// compatible returns the compatible strings of a node.
func compatible(n api.Node) []string {
	value, ok := valueOf(n, compatibleName)
	if !ok {
		return nil
	}
	l, _ := print.Strings(value)
	return l
}

// valueOf returns the value of a property of a node, and whether there is one.
func valueOf(n api.Node, name string) (string, bool) {
	// tree.Value would check the whole tree again for each rule.
	i := slices.IndexFunc(n.Properties, func(p api.Property) bool { return p.Name == name })
	if i < 0 {
		return "", false
	}
	return n.Properties[i].Value, true
}

// governing returns the index of the schema of the first string that has one, and whether one has.
func governing(l []api.Schema, names []string) (int, bool) {
	for _, s := range names {
		if i, ok := schema.Find(l, s); ok {
			return i, true
		}
	}
	return 0, false
}
