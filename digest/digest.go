// Package digest is layer 1: see shared/doc/01-digest.md.
package digest

import (
	"strings"

	"licit/api"
)

// rate is how many bytes a block has.
const rate = 136

// hexDigits has the digit of each value from 0 to 15.
const hexDigits = "0123456789abcdef"

// Sponge takes in data and gives its digest. The bytes of a block that is not full yet are already combined with the state.
type Sponge struct {
	state [25]uint64
	taken int
}

// New returns a sponge that has taken in nothing.
func New() *Sponge { return &Sponge{} }

// Write takes in strings, one behind the other, and returns how many bytes were taken in in all.
func (s *Sponge) Write(parts ...string) int {
	for _, part := range parts {
		s.take(part)
	}
	return s.taken
}

// take takes in a string: eight bytes at a time, where they make up a word.
func (s *Sponge) take(data string) {
	at := s.taken % rate
	s.taken += len(data)
	for len(data) > 0 {
		n := 1
		if at%8 == 0 && len(data) >= 8 {
			n = 8
			s.state[at/8] ^= word(data)
		} else {
			s.state[at/8] ^= uint64(data[0]) << (8 * (at % 8))
		}
		at += n
		data = data[n:]
		if at == rate {
			s.state = Permute(s.state)
			at = 0
		}
	}
}

// word returns the first eight bytes of a string as a number, the lowest byte first.
func word(data string) uint64 {
	data = data[:8]
	return uint64(data[0]) | uint64(data[1])<<8 | uint64(data[2])<<16 | uint64(data[3])<<24 |
		uint64(data[4])<<32 | uint64(data[5])<<40 | uint64(data[6])<<48 | uint64(data[7])<<56
}

// Sum returns the digest of everything that was taken in.
func (s *Sponge) Sum() string {
	// a copy is padded, because the sponge may take in more
	state := s.state
	at := s.taken % rate
	state[at/8] ^= 0x06 << (8 * (at % 8))
	state[rate/8-1] ^= 0x80 << 56
	state = Permute(state)
	var sum [api.DigestSize]byte
	for i := range sum {
		sum[i] = byte(state[i/8] >> (8 * (i % 8)))
	}
	return string(sum[:])
}

// Clone returns an independent sponge that has taken in the same.
func (s *Sponge) Clone() *Sponge {
	clone := *s
	return &clone
}

// Sum returns the digest of a string.
func Sum(data string) string {
	var s Sponge
	s.take(data)
	return s.Sum()
}

// Hex returns the text of a digest: ErrArg, if the string does not have the size of a digest.
func Hex(digest string) (string, api.Errno) {
	if len(digest) != api.DigestSize {
		return "", api.ErrArg
	}
	var text [2 * api.DigestSize]byte
	for i := range len(digest) {
		text[2*i] = hexDigits[digest[i]>>4]
		text[2*i+1] = hexDigits[digest[i]&15]
	}
	return string(text[:]), api.OK
}

// Parse returns the digest with a text: ErrSyntax, if the string is not the text of a digest.
func Parse(text string) (string, api.Errno) {
	if len(text) != 2*api.DigestSize {
		return "", api.ErrSyntax
	}
	var digest [api.DigestSize]byte
	for i := range len(text) {
		value := strings.IndexByte(hexDigits, text[i])
		if value < 0 {
			return "", api.ErrSyntax
		}
		digest[i/2] = digest[i/2]<<4 | byte(value)
	}
	return string(digest[:]), api.OK
}
