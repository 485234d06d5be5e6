// Package sums has the checks of bytes: two remainders and a running sum.
package sums

import "reel/bytenum"

// How many bytes the checks have that stand behind what they seal.
const (
	EightSize   = 1
	SixteenSize = 2
)

// SumOfNothing is the sum of no bytes.
const SumOfNothing = 1

const (
	eightDivisor   = 0b100000111
	sixteenDivisor = 0b11000000000000101
	sumModulus     = 65521
	sumHalf        = 65536
)

// Eight is the check of bytes in eight bits.
func Eight(s string) int {
	return remainder(s, 8, eightDivisor)
}

// Sixteen is the check of bytes in sixteen bits.
func Sixteen(s string) int {
	return remainder(s, 16, sixteenDivisor)
}

// SealByEight lays Eight of bytes behind them.
func SealByEight(s string) string {
	return s + bytenum.In(Eight(s), EightSize)
}

// SealBySixteen lays Sixteen of bytes behind them.
func SealBySixteen(s string) string {
	return s + bytenum.In(Sixteen(s), SixteenSize)
}

// IsSealedByEight tells whether the last byte is Eight of those ahead of it.
func IsSealedByEight(s string) bool {
	return len(s) >= EightSize && SealByEight(s[:len(s)-EightSize]) == s
}

// IsSealedBySixteen tells whether the last two bytes are Sixteen of those ahead of them.
func IsSealedBySixteen(s string) bool {
	return len(s) >= SixteenSize && SealBySixteen(s[:len(s)-SixteenSize]) == s
}

// remainder holds only the size bits behind the first 1 that is left: all bits
// ahead of it are 0, and those behind it have not been turned yet.
func remainder(s string, size, divisor int) int {
	rest := 0
	for i := range len(s) {
		rest ^= int(s[i]) << (size - 8)
		for range 8 {
			rest <<= 1
			if rest>>size == 1 {
				rest ^= divisor
			}
		}
	}
	return rest
}

// Sum is the sum of bytes.
func Sum(s string) int {
	return SumOn(SumOfNothing, s)
}

// SumOn is the sum of bytes that stand behind others, of which the sum is told.
func SumOn(sum int, s string) int {
	a, b := sum%sumHalf, sum/sumHalf
	for i := range len(s) {
		a = (a + int(s[i])) % sumModulus
		b = (b + a) % sumModulus
	}
	return sumHalf*b + a
}
