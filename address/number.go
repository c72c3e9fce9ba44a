package address

import (
	"slices"

	"bringup/api"
	"bringup/print"
)

// rows returns the numbers of a value, row by row: a row has a number for each width, which is its number of cells.
func rows(value string, widths ...int) ([][]int, api.Errno) {
	width := sum(widths)
	if len(value)%(4*width) != 0 {
		return nil, api.ErrCells
	}
	// A value without bytes has no rows, although it is no list of cells.
	l, _ := print.Cells(value)
	var out [][]int
	for row := range slices.Chunk(l, width) {
		numbers, e := split(row, widths)
		if e != api.OK {
			return nil, e
		}
		out = append(out, numbers)
	}
	return out, api.OK
}

// sum returns the sum of numbers.
func sum(l []int) int {
	out := 0
	for _, n := range l {
		out += n
	}
	return out
}

// split returns the numbers of a row of cells.
func split(row, widths []int) ([]int, api.Errno) {
	var out []int
	for _, w := range widths {
		n := number(row[:w])
		if n > api.MaxAddress {
			return nil, api.ErrRange
		}
		out = append(out, int(n))
		row = row[w:]
	}
	return out, api.OK
}

// number returns the number of one or two cells.
func number(l []int) uint64 {
	out := uint64(0)
	for _, n := range l {
		out = out<<32 | uint64(n)
	}
	return out
}
