package digest

import "math/bits"

// roundConstants has a constant for each round of the permutation.
var roundConstants = [24]uint64{
	0x0000000000000001, 0x0000000000008082, 0x800000000000808a, 0x8000000080008000,
	0x000000000000808b, 0x0000000080000001, 0x8000000080008081, 0x8000000000008009,
	0x000000000000008a, 0x0000000000000088, 0x0000000080008009, 0x000000008000000a,
	0x000000008000808b, 0x800000000000008b, 0x8000000000008089, 0x8000000000008003,
	0x8000000000008002, 0x8000000000000080, 0x000000000000800a, 0x800000008000000a,
	0x8000000080008081, 0x8000000000008080, 0x0000000080000001, 0x8000000080008008,
}

// Permute returns the permutation of a state.
func Permute(state [25]uint64) [25]uint64 {
	var moved [25]uint64
	first := 0
	if state == ([25]uint64{}) {
		// Theta, rho, pi and chi leave the zero state as it is, so its first round is iota alone.
		state[0] = roundConstants[0]
		first = 1
	}
	for i := first; i < len(roundConstants); i++ {
		theta(&state)
		rotateAndMove(&moved, &state)
		chi(&state, &moved)
		state[0] ^= roundConstants[i]
	}
	return state
}

// theta combines each word with the columns beside its own.
func theta(s *[25]uint64) {
	c0 := s[0] ^ s[5] ^ s[10] ^ s[15] ^ s[20]
	c1 := s[1] ^ s[6] ^ s[11] ^ s[16] ^ s[21]
	c2 := s[2] ^ s[7] ^ s[12] ^ s[17] ^ s[22]
	c3 := s[3] ^ s[8] ^ s[13] ^ s[18] ^ s[23]
	c4 := s[4] ^ s[9] ^ s[14] ^ s[19] ^ s[24]
	d0 := c4 ^ bits.RotateLeft64(c1, 1)
	d1 := c0 ^ bits.RotateLeft64(c2, 1)
	d2 := c1 ^ bits.RotateLeft64(c3, 1)
	d3 := c2 ^ bits.RotateLeft64(c4, 1)
	d4 := c3 ^ bits.RotateLeft64(c0, 1)
	for y := 0; y < 25; y += 5 {
		s[y] ^= d0
		s[y+1] ^= d1
		s[y+2] ^= d2
		s[y+3] ^= d3
		s[y+4] ^= d4
	}
}

// rotateAndMove is rho and pi: it sets moved to the words of the state, rotated and at their new places.
// The moves are written out, row by row of the old state: with a table of the offsets the permutation takes twice the time.
func rotateAndMove(moved, s *[25]uint64) {
	moved[0] = s[0]
	moved[10] = bits.RotateLeft64(s[1], 1)
	moved[20] = bits.RotateLeft64(s[2], 62)
	moved[5] = bits.RotateLeft64(s[3], 28)
	moved[15] = bits.RotateLeft64(s[4], 27)

	moved[16] = bits.RotateLeft64(s[5], 36)
	moved[1] = bits.RotateLeft64(s[6], 44)
	moved[11] = bits.RotateLeft64(s[7], 6)
	moved[21] = bits.RotateLeft64(s[8], 55)
	moved[6] = bits.RotateLeft64(s[9], 20)

	moved[7] = bits.RotateLeft64(s[10], 3)
	moved[17] = bits.RotateLeft64(s[11], 10)
	moved[2] = bits.RotateLeft64(s[12], 43)
	moved[12] = bits.RotateLeft64(s[13], 25)
	moved[22] = bits.RotateLeft64(s[14], 39)

	moved[23] = bits.RotateLeft64(s[15], 41)
	moved[8] = bits.RotateLeft64(s[16], 45)
	moved[18] = bits.RotateLeft64(s[17], 15)
	moved[3] = bits.RotateLeft64(s[18], 21)
	moved[13] = bits.RotateLeft64(s[19], 8)

	moved[14] = bits.RotateLeft64(s[20], 18)
	moved[24] = bits.RotateLeft64(s[21], 2)
	moved[9] = bits.RotateLeft64(s[22], 61)
	moved[19] = bits.RotateLeft64(s[23], 56)
	moved[4] = bits.RotateLeft64(s[24], 14)
}

// chi sets each word of the state to the moved word at its place, combined with the two words behind it in its row.
func chi(s, moved *[25]uint64) {
	for y := 0; y < 25; y += 5 {
		b0, b1, b2, b3, b4 := moved[y], moved[y+1], moved[y+2], moved[y+3], moved[y+4]
		s[y] = b0 ^ ^b1&b2
		s[y+1] = b1 ^ ^b2&b3
		s[y+2] = b2 ^ ^b3&b4
		s[y+3] = b3 ^ ^b4&b0
		s[y+4] = b4 ^ ^b0&b1
	}
}
