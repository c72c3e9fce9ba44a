package blob_test

import (
	"bytes"
	"math/big"
	"math/rand"
	"testing"

	"bringup/blob"
)

func sums(t *testing.T, b []byte, want int) {
	t.Helper()
	before := bytes.Clone(b)
	if got := blob.Sum(b); got != want {
		t.Errorf("%.60q (%d bytes): %d, not %d", b, len(b), got, want)
	}
	if !bytes.Equal(b, before) {
		t.Errorf("%.60q was changed", before)
	}
}

func TestSumOfFewBytes(t *testing.T) {
	sums(t, nil, 0)
	sums(t, []byte{}, 0)
	sums(t, []byte{0}, 0)
	sums(t, make([]byte, 1000), 0)
	for c := range 256 {
		sums(t, []byte{byte(c)}, c)
		sums(t, []byte{0, byte(c)}, 2*c)
		sums(t, []byte{0, 0, 0, byte(c), 0}, 4*c)
		sums(t, []byte{byte(c), byte(c), byte(c)}, 6*c)
		sums(t, []byte{1, 2, byte(c), 255}, 1+4+3*c+4*255)
	}
	// The same bytes in another order.
	sums(t, []byte("abc"), 97+2*98+3*99)
	sums(t, []byte("cba"), 99+2*98+3*97)
}

// TestSumOfManyBytes has sums beyond 2^32, and beyond 2^31, where signed numbers of 32 bits end.
func TestSumOfManyBytes(t *testing.T) {
	for n, want := range map[int]int{
		4103:    2146935780,
		4104:    2147982300,
		5803:    4294278030,
		5804:    790754,
		5805:    2271029,
		10000:   4161340408,
		100000:  3702430384,
		1000000: 4023318240,
	} {
		sums(t, bytes.Repeat([]byte{255}, n), want)
	}
	// One byte, which alone is so much.
	b := make([]byte, 1<<24)
	b[1<<24-1] = 255
	sums(t, b, 255<<24)
	b[1<<24-2] = 1
	sums(t, b, 1<<32-1)
	b[0] = 1
	sums(t, b, 0)
	b[1] = 1
	sums(t, b, 2)
}

func TestSumsOfRandomBytes(t *testing.T) {
	random := rand.New(rand.NewSource(1))
	for range 200 {
		b := make([]byte, random.Intn(20000))
		random.Read(b)
		want := new(big.Int)
		for i, c := range b {
			want.Add(want, new(big.Int).Mul(big.NewInt(int64(c)), big.NewInt(int64(i+1))))
		}
		sums(t, b, int(want.Mod(want, big.NewInt(1<<32)).Int64()))
	}
}
