package expression_test

import (
	"math"
	"math/rand"
	"testing"

	"bringup/api"
	"bringup/expression"
)

func formats(t *testing.T, n int, want string) {
	t.Helper()
	if got := expression.Format(n); got != want {
		t.Errorf("%d: %q, not %q", n, got, want)
	}
}

func TestFormat(t *testing.T) {
	for n := range 10 {
		formats(t, n, string([]byte{'0' + byte(n)}))
	}
	formats(t, 10, "0xa")
	formats(t, 15, "0xf")
	formats(t, 16, "0x10")
	formats(t, 255, "0xff")
	formats(t, 0xabcdef, "0xabcdef")
	formats(t, 0x01234567, "0x1234567")
	formats(t, 0x89abcdef, "0x89abcdef")
	formats(t, 1<<31, "0x80000000")
	formats(t, api.MaxCell-1, "0xfffffffe")
	formats(t, api.MaxCell, "0xffffffff")
}

func TestFormatOutOfRange(t *testing.T) {
	for _, n := range []int{-1, -2, -10, -1 << 31, math.MinInt, math.MinInt + 1, api.MaxCell + 1, api.MaxCell + 2, 1 << 33, 1 << 62, math.MaxInt} {
		formats(t, n, "")
	}
}

func TestComputeOfFormat(t *testing.T) {
	numbers := []int{0, 1, 9, 10, 1<<31 - 1, 1 << 31, api.MaxCell}
	random := rand.New(rand.NewSource(1))
	for range 5000 {
		numbers = append(numbers, int(random.Uint32()>>random.Intn(32)))
	}
	for _, n := range numbers {
		if got, e := expression.Compute(expression.Format(n)); got != n || e != api.OK {
			t.Errorf("%d: %d, error %d", n, got, e)
		}
	}
}
