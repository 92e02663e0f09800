package edges

import (
	"math/big"
	"slices"
	"testing"
)

// Both signs, and each edge of each width, are among the numbers.
func TestNumbers(t *testing.T) {
	l := Numbers()
	for b := range 63 {
		for _, n := range []int{1<<b - 1, 1 << b, 1<<b + 1, -(1 << b), -(1 << b) - 1, -(1 << b) + 1} {
			if !slices.Contains(l, n) {
				t.Errorf("%d is missing", n)
			}
		}
	}
}

// The modulo is that of mathematics, never below 0.
func TestModulo(t *testing.T) {
	for bits := range uint(63) {
		for _, n := range Numbers() {
			m := new(big.Int).Lsh(big.NewInt(1), bits)
			want := new(big.Int).Mod(big.NewInt(int64(n)), m).Uint64()
			if got := Modulo(n, bits); got != want {
				t.Fatalf("Modulo(%d, %d) = %d, want %d", n, bits, got, want)
			}
		}
	}
}
