package blob

import "bringup/api"

// encoding returns the encoding of a valid tree, however long it is.
func encoding(nodes []api.Node) []byte {
	structure, names := body(nodes)
	total := headerBytes + len(structure) + len(names)
	b := appendNumbers(nil, magic, total, len(structure), len(names), Sum(structure), Sum(names))
	b = appendNumbers(b, Sum(b))
	return append(append(b, structure...), names...)
}

// body returns the structure and the strings.
func body(nodes []api.Node) (structure, names []byte) {
	places := map[string]int{}
	open := -1 // the innermost node that has not ended
	// end ends nodes until this one is the innermost.
	end := func(parent int) {
		for ; open != parent; open = nodes[open].Parent {
			structure = appendNumbers(structure, nodeEnds)
		}
	}
	for i, n := range nodes {
		end(n.Parent)
		open = i
		structure = appendText(appendNumbers(structure, nodeBegins), n.Name)
		for _, p := range n.Properties {
			if _, ok := places[p.Name]; !ok {
				places[p.Name] = len(names)
				names = append(append(names, p.Name...), 0)
			}
			structure = appendNumbers(structure, propertyComes, len(p.Value), places[p.Name])
			structure = appendValue(structure, p.Value)
		}
	}
	end(-1)
	return appendNumbers(structure, structureEnds), names
}

// appendNumbers writes numbers with the most significant byte first.
func appendNumbers(b []byte, l ...int) []byte {
	for _, n := range l {
		b = append(b, byte(n>>24), byte(n>>16), byte(n>>8), byte(n))
	}
	return b
}

// appendText writes a text, behind which is at least one zero byte.
func appendText(b []byte, s string) []byte {
	return appendValue(b, s+"\x00")
}

// appendValue writes a value, with zero bytes up to where the next number can stand.
func appendValue(b []byte, v string) []byte {
	b = append(b, v...)
	for len(b) < aligned(len(b)) {
		b = append(b, 0)
	}
	return b
}
