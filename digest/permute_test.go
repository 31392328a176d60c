package digest

import (
	"math/bits"
	"testing"
)

// place is the index of a word, with its place taken modulo 5.
func place(x, y int) int { return (x+5)%5 + 5*((y+5)%5) }

// definedRound does what the chapter says, step by step and place by place.
func definedRound(s [25]uint64, constant uint64) [25]uint64 {
	offsets := [5][5]int{{0, 1, 62, 28, 27}, {36, 44, 6, 55, 20}, {3, 10, 43, 25, 39}, {41, 45, 15, 21, 8}, {18, 2, 61, 56, 14}}
	column := func(x int) uint64 {
		return s[place(x, 0)] ^ s[place(x, 1)] ^ s[place(x, 2)] ^ s[place(x, 3)] ^ s[place(x, 4)]
	}
	var mixed, moved, next [25]uint64
	for y := range 5 {
		for x := range 5 {
			mixed[place(x, y)] = s[place(x, y)] ^ column(x-1) ^ bits.RotateLeft64(column(x+1), 1)
		}
	}
	for y := range 5 {
		for x := range 5 {
			moved[place(y, 2*x+3*y)] = bits.RotateLeft64(mixed[place(x, y)], offsets[y][x])
		}
	}
	for y := range 5 {
		for x := range 5 {
			next[place(x, y)] = moved[place(x, y)] ^ (^moved[place(x+1, y)] & moved[place(x+2, y)])
		}
	}
	next[0] ^= constant
	return next
}

// definedPermutation has the round constants of the chapter once more, so that a changed table is noticed.
func definedPermutation(s [25]uint64) [25]uint64 {
	for _, constant := range []uint64{
		0x0000000000000001, 0x0000000000008082, 0x800000000000808a, 0x8000000080008000, 0x000000000000808b, 0x0000000080000001,
		0x8000000080008081, 0x8000000000008009, 0x000000000000008a, 0x0000000000000088, 0x0000000080008009, 0x000000008000000a,
		0x000000008000808b, 0x800000000000008b, 0x8000000000008089, 0x8000000000008003, 0x8000000000008002, 0x8000000000000080,
		0x000000000000800a, 0x800000008000000a, 0x8000000080008081, 0x8000000000008080, 0x0000000080000001, 0x8000000080008008,
	} {
		s = definedRound(s, constant)
	}
	return s
}

// someStates returns different states: the zero state, states with a single bit, full ones, and mixed ones.
func someStates() [][25]uint64 {
	full := [25]uint64{}
	for i := range full {
		full[i] = ^uint64(0)
	}
	states := [][25]uint64{{}, full}
	for i := range 25 * 64 {
		single := [25]uint64{}
		single[i/64] = 1 << (i % 64)
		states = append(states, single)
	}
	x := uint64(1)
	for range 200 {
		mixed := [25]uint64{}
		for i := range mixed {
			x = 6364136223846793005*x + 1442695040888963407
			mixed[i] = x ^ x>>29
		}
		states = append(states, mixed)
	}
	return states
}

// P1.1: the permutation is that of the definition.
func TestPermuteIsDefined(t *testing.T) {
	for _, s := range someStates() {
		before := s
		if Permute(s) != definedPermutation(s) {
			t.Errorf("%x", s)
		}
		if s != before {
			t.Errorf("changed: %x", before)
		}
	}
}

// P1.1: the known permutations of the zero state, once and twice.
func TestPermuteZero(t *testing.T) {
	once := [25]uint64{
		0xf1258f7940e1dde7, 0x84d5ccf933c0478a, 0xd598261ea65aa9ee, 0xbd1547306f80494d, 0x8b284e056253d057,
		0xff97a42d7f8e6fd4, 0x90fee5a0a44647c4, 0x8c5bda0cd6192e76, 0xad30a6f71b19059c, 0x30935ab7d08ffc64,
		0xeb5aa93f2317d635, 0xa9a6e6260d712103, 0x81a57c16dbcf555f, 0x43b831cd0347c826, 0x01f22f1a11a5569f,
		0x05e5635a21d9ae61, 0x64befef28cc970f2, 0x613670957bc46611, 0xb87c5a554fd00ecb, 0x8c3ee88a1ccf32c8,
		0x940c7922ae3a2614, 0x1841f924a2c509e4, 0x16f53526e70465c2, 0x75f644e97f30a13b, 0xeaf1ff7b5ceca249,
	}
	if s := Permute([25]uint64{}); s != once {
		t.Errorf("%x", s)
	}
	if s := Permute(once); s[0] != 0x2d5c954df96ecb3c || s[24] != 0x20d06cd26a8fbf5c {
		t.Errorf("%x", s)
	}
}

// P1.4: different states have different permutations.
func TestPermuteDiffers(t *testing.T) {
	from := map[[25]uint64][25]uint64{}
	for _, s := range someStates() {
		p := Permute(s)
		if other, ok := from[p]; ok {
			t.Errorf("%x and %x", s, other)
		}
		from[p] = s
	}
}
