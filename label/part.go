package label

import "bringup/api"

// cells returns the cells of a part; only those of one kind count.
func cells(p api.Part) []api.Cell {
	if p.Kind != api.PartCells {
		return nil
	}
	return p.Cells
}

// inRange reports whether all cells of parts that are numbers have 32 bits.
func inRange(l []api.Part) bool {
	for _, p := range l {
		for _, c := range cells(p) {
			if c.Label == "" && (c.Value < 0 || c.Value > api.MaxCell) {
				return false
			}
		}
	}
	return true
}

// phandleOf returns the phandle that parts say, and whether they say one: they are a single number.
func phandleOf(l []api.Part) (int, bool) {
	if len(l) != 1 {
		return 0, false
	}
	c := cells(l[0])
	if len(c) != 1 || c[0].Label != "" || !isPhandle(c[0].Value) {
		return 0, false
	}
	return c[0].Value, true
}

// isPhandle reports whether a number can be a phandle.
func isPhandle(n int) bool {
	return n >= 1 && n <= api.MaxPhandle
}

// bytesOf returns the bytes of a cell.
func bytesOf(n int) string {
	return string([]byte{byte(n >> 24), byte(n >> 16), byte(n >> 8), byte(n)})
}

// bytes returns what a part says, when all that it refers to is known.
func (r *resolver) bytes(p api.Part) []byte {
	var out []byte
	switch p.Kind {
	case api.PartCells:
		for _, c := range p.Cells {
			out = append(out, bytesOf(r.number(c))...)
		}
	case api.PartString:
		out = append(append(out, p.Text...), 0)
	case api.PartBytes:
		out = append(out, p.Text...)
	case api.PartPath:
		out = append(append(out, r.labels[p.Text].path...), 0)
	}
	return out
}

// number returns the number that a cell says.
func (r *resolver) number(c api.Cell) int {
	if c.Label == "" {
		return c.Value
	}
	return r.labels[c.Label].phandle
}
