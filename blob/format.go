package blob

const (
	magic       = 0xd00dfeed
	numberBytes = 4
	headerBytes = 7 * numberBytes
)

// Numbers that say what follows in the structure.
const (
	nodeBegins    = 1
	nodeEnds      = 2
	propertyComes = 3
	structureEnds = 9
)

// aligned returns the first multiple of the bytes of a number from an index on.
func aligned(at int) int {
	return (at + numberBytes - 1) / numberBytes * numberBytes
}

// number returns the number at an index.
func number(b []byte, at int) int {
	n := 0
	for _, c := range b[at : at+numberBytes] {
		n = n<<8 | int(c)
	}
	return n
}
