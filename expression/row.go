package expression

// operation computes the value of a sign from its two operands. As all numbers have 32 bits, all results are taken modulo 2^32.
type operation func(a, b uint32) uint32

// Numbers of rows: frontRow is that of the signs in front of an operand, and the rows after it are those of the signs between two.
const (
	frontRow  = 0
	choiceRow = 11 // the row of '?' and ':'
	openRow   = 12 // no row: what waits until another sign ends it
)

// rows returns the signs of each row with what they compute. The left operand of those in front is 0.
func rows() []map[string]operation {
	return []map[string]operation{
		{"-": difference, "~": turned, "!": equal},
		{"*": product, "/": quotient, "%": rest},
		{"+": sum, "-": difference},
		{"<<": left, ">>": right},
		{"<": less, ">": greater, "<=": atMost, ">=": atLeast},
		{"==": equal, "!=": different},
		{"&": and},
		{"^": exclusive},
		{"|": or},
		{"&&": both},
		{"||": either},
	}
}

func turned(_, b uint32) uint32     { return ^b }
func product(a, b uint32) uint32    { return a * b }
func quotient(a, b uint32) uint32   { return a / b }
func rest(a, b uint32) uint32       { return a % b }
func sum(a, b uint32) uint32        { return a + b }
func difference(a, b uint32) uint32 { return a - b }
func left(a, b uint32) uint32       { return a << b }
func right(a, b uint32) uint32      { return a >> b }
func less(a, b uint32) uint32       { return truth(a < b) }
func greater(a, b uint32) uint32    { return truth(a > b) }
func atMost(a, b uint32) uint32     { return truth(a <= b) }
func atLeast(a, b uint32) uint32    { return truth(a >= b) }
func equal(a, b uint32) uint32      { return truth(a == b) }
func different(a, b uint32) uint32  { return truth(a != b) }
func and(a, b uint32) uint32        { return a & b }
func exclusive(a, b uint32) uint32  { return a ^ b }
func or(a, b uint32) uint32         { return a | b }
func both(a, b uint32) uint32       { return truth(a != 0 && b != 0) }
func either(a, b uint32) uint32     { return truth(a != 0 || b != 0) }

// truth returns 1 for what holds.
func truth(holds bool) uint32 {
	if holds {
		return 1
	}
	return 0
}

// divides reports whether a sign has no result if its right operand is 0.
func divides(sign string) bool {
	return sign == "/" || sign == "%"
}
