package emulate

// wordSize is the number of bytes of a word; words of the memory stand at its multiples.
const wordSize = 4

// memory is the bytes of a loaded program. How many there are never changes while it runs.
type memory []byte

// has says whether some bytes from an address on are in the memory.
func (m memory) has(at, size int) bool { return at >= 0 && at+size <= len(m) }

// hasWord says whether there is a word of the memory at an address.
func (m memory) hasWord(address uint32) bool {
	return address%wordSize == 0 && m.has(int(address), wordSize)
}

// number returns the number that some bytes from an address on are, the lowest one first.
func (m memory) number(at, size int) uint32 {
	n := uint32(0)
	for i := range size {
		n |= uint32(m[at+i]) << (8 * i)
	}
	return n
}

// word returns the four bytes from an address on, which may be any one, because the words in code stand anywhere.
func (m memory) word(at int) uint32 { return m.number(at, wordSize) }

// put writes four bytes from an address on.
func (m memory) put(at int, word uint32) {
	for i := range wordSize {
		m[at+i] = byte(word >> (8 * i))
	}
}
