// Package edges has what the tests of words' parts share: numbers at which a part begins not to fit, and what such a number is then. No layer stands on it.
package edges

import "math"

// Numbers are those around each power of two, of both signs, the greatest and the least, and one of no pattern.
func Numbers() []int {
	l := []int{math.MaxInt, math.MinInt, 0x123456789abcdef, -0x123456789abcdef}
	for b := range 63 {
		for d := -1; d <= 1; d++ {
			l = append(l, 1<<b+d, -(1<<b + d))
		}
	}
	return l
}

// Modulo is n modulo what so many bits, at most 62, hold. It divides, so that no test has its answer by the masks of what it tests.
func Modulo(n int, bits uint) uint64 {
	m := 1 << bits
	r := n % m
	if r < 0 {
		r += m
	}
	return uint64(r)
}
