package rolling

import (
	"math/bits"

	"licit/api"
)

// width is how many bits a residue has at most, and prime the number modulo which they are taken.
const (
	width = 61
	prime = 1<<width - 1
)

// The numbers by which a code is multiplied for each byte of a word, and a hash for each word.
const (
	radix = 257
	base  = 1000003
)

// isResidue says whether a number is a residue.
func isResidue(n int) bool { return 0 <= n && n < prime }

// Mul returns the product of two residues modulo the prime; 0, if one of them is none.
func Mul(a, b int) int {
	if !isResidue(a) || !isResidue(b) {
		return 0
	}
	high, low := bits.Mul64(uint64(a), uint64(b))
	// 2 to the width is 1 modulo the prime, so the bits from there on count as much as those from 0 on
	return int((high<<(64-width)|low>>width)+low&prime) % prime
}

// Power returns the power of the base with an exponent from 0 to MaxWords modulo the prime; 0 for others.
func Power(n int) int {
	if n < 0 || n > api.MaxWords {
		return 0
	}
	power, square := 1, base
	for ; n > 0; n /= 2 {
		if n%2 == 1 {
			power = Mul(power, square)
		}
		square = Mul(square, square)
	}
	return power
}

// extend returns the code of a word behind which a byte is added, or the hash of words behind which a word with a code is added.
func extend(a, factor, next int) int { return (Mul(a, factor) + next + 1) % prime }
