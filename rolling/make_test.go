package rolling

import (
	"math"
	"math/big"
	"math/rand"
	"slices"
	"strings"

	"licit/api"
)

// p is the number modulo which residues are taken, written out.
const p = 2305843009213693951

// words returns words with some texts, whose lines differ.
func words(texts ...string) []api.Lexeme {
	var l []api.Lexeme
	for i, s := range texts {
		l = append(l, api.Lexeme{Text: s, Line: i / 2})
	}
	return l
}

// many returns n words, of which some are equal.
func many(n int) []api.Lexeme {
	var l []api.Lexeme
	for i := range n {
		l = append(l, api.Lexeme{Text: strings.Repeat("w", i%7) + string([]byte{byte(i * i % 251)}), Line: i % 5})
	}
	return l
}

// mod returns a number modulo p.
func mod(n *big.Int) int { return int(new(big.Int).Mod(n, big.NewInt(p)).Int64()) }

// mulAdd returns a * b + c.
func mulAdd(a *big.Int, b, c int) *big.Int {
	n := new(big.Int).Mul(a, big.NewInt(int64(b)))
	return n.Add(n, big.NewInt(int64(c)))
}

// plainCode returns the code of a word by the definition: as one number, which is taken modulo p at the end.
func plainCode(word string) int {
	n := new(big.Int)
	for _, b := range []byte(word) {
		n = mulAdd(n, 257, int(b)+1)
	}
	return mod(n)
}

// plainPower returns a power of the base modulo p.
func plainPower(n int) int {
	return mod(new(big.Int).Exp(big.NewInt(1000003), big.NewInt(int64(n)), big.NewInt(p)))
}

// plainHash returns the hash of some words as the sum of the definition.
func plainHash(l []api.Lexeme) int {
	sum := new(big.Int)
	for i, w := range l {
		sum.Add(sum, mulAdd(big.NewInt(int64(plainCode(w.Text))+1), plainPower(len(l)-1-i), 0))
	}
	return mod(sum)
}

// coded returns a word that is not empty and has a code: the bytes that lead to a number with this residue.
func coded(code int) string {
	for turn := 1; ; turn++ {
		n := mulAdd(big.NewInt(p), turn, code)
		var bytes []byte
		digit := new(big.Int)
		for n.Sign() > 0 {
			n.DivMod(n, big.NewInt(257), digit)
			bytes = append(bytes, byte(digit.Int64()-1))
			if digit.Sign() == 0 {
				// no byte adds 0
				bytes = nil
				break
			}
		}
		if bytes != nil {
			slices.Reverse(bytes)
			return string(bytes)
		}
	}
}

// residues returns residues at the ends, around powers of 2, and some at random.
func residues(r *rand.Rand) []int {
	l := []int{0, 1, 2, 3, 256, 257, 258, 1000002, 1000003, 1000004, p - 1, p - 2, p - 3, p - 257, p - 1000003, p / 2, p/2 + 1, p / 3, p / 257}
	for _, n := range []int{31, 32, 33, 59, 60} {
		l = append(l, 1<<n-1, 1<<n, 1<<n+1, p-1<<n)
	}
	for range 20 {
		l = append(l, int(r.Int63n(p)))
	}
	return l
}

// noResidues returns numbers that are none.
func noResidues() []int {
	return []int{-1, -2, -1000003, -p, -p - 1, 1 - p, p, p + 1, 2 * p, 2*p + 1, 1 << 61, 1<<62 - 1, 1 << 62, math.MaxInt, math.MinInt, math.MinInt + 1}
}
