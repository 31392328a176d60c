package rolling

import (
	"math/rand"
	"slices"
	"testing"

	"licit/api"
	"licit/normalize"
)

// someWords returns words at random, of which many are equal.
func someWords(r *rand.Rand, most int) []api.Lexeme {
	texts := []string{"", "a", "b", "ab", "$n", "$0", "\xff", "return", coded(p - 1)}
	var l []api.Lexeme
	for range r.Intn(most + 1) {
		l = append(l, api.Lexeme{Text: texts[r.Intn(len(texts))], Line: r.Intn(9)})
	}
	return l
}

// P24.4: the hash of two lists, one behind the other, follows from those of both, and does not depend on where they are divided.
func TestJoinedLists(t *testing.T) {
	r := rand.New(rand.NewSource(5))
	for range 2000 {
		l := someWords(r, 20)
		if got := Hash(l); got != plainHash(l) {
			t.Fatal(l, got)
		}
		for i := range len(l) + 1 {
			if n, e := Join(Hash(l[:i]), Hash(l[i:]), len(l)-i); e != api.OK || n != Hash(l) {
				t.Fatal(l, i, n, e)
			}
		}
	}
	for _, n := range []int{0, 1, 4096, api.MaxWords} {
		front, back := many(500), many(n)
		if got, e := Join(Hash(front), Hash(back), n); e != api.OK || got != Hash(slices.Concat(front, back)) {
			t.Error(n, got, e)
		}
	}
}

// P24.4: the hash of a run follows from that of the run before; Grams are the hashes from the beginning.
func TestRollingOn(t *testing.T) {
	r := rand.New(rand.NewSource(6))
	for range 1000 {
		l := someWords(r, 30)
		for k := 1; k <= len(l)+1; k++ {
			grams, e := Grams(l, k)
			if e != api.OK || len(grams) != max(0, len(l)-k+1) {
				t.Fatal(l, k, grams, e)
			}
			for i, hash := range grams {
				if hash != plainHash(l[i:i+k]) {
					t.Fatal(l, k, i, hash)
				}
				if i+k == len(l) {
					continue
				}
				if next, e := Roll(hash, l[i].Text, l[i+k].Text, k); e != api.OK || next != grams[i+1] {
					t.Fatal(l, k, i, next, e)
				}
			}
		}
	}
}

// P24.4: a hash that rolls on over as many words as possible, for runs of one word and of many.
func TestRollingFar(t *testing.T) {
	l := many(api.MaxWords)
	for _, k := range []int{1, 3, 500, api.MaxWords - 1} {
		hash := Hash(l[:k])
		for i := range len(l) - k {
			var e api.Errno
			if hash, e = Roll(hash, l[i].Text, l[i+k].Text, k); e != api.OK {
				t.Fatal(k, i, e)
			}
		}
		if hash != Hash(l[len(l)-k:]) {
			t.Error(k, hash)
		}
	}
	// a run of MaxWords words moves on, too
	if hash, e := Roll(Hash(l), l[0].Text, "next", len(l)); e != api.OK || hash != Hash(append(slices.Clone(l[1:]), words("next")...)) {
		t.Error(hash, e)
	}
}

// add returns the sum of two residues.
func add(t *testing.T, a, b int) int {
	n, e := Join(a, b, 0)
	if e != api.OK {
		t.Fatal(a, b, e)
	}
	return n
}

// P24.4: residues form a field: sums and products obey its laws, and each residue but 0 has an inverse.
func TestField(t *testing.T) {
	l := residues(rand.New(rand.NewSource(7)))
	for _, a := range l {
		negative := (p - a) % p
		if add(t, a, 0) != a || Mul(a, 1) != a || Mul(a, 0) != 0 || add(t, a, negative) != 0 || Mul(a, p-1) != negative {
			t.Fatal(a)
		}
		// the power with the exponent p - 2
		inverse, square := 1, a
		for n := p - 2; n > 0; n /= 2 {
			if n%2 == 1 {
				inverse = Mul(inverse, square)
			}
			square = Mul(square, square)
		}
		if a != 0 && Mul(a, inverse) != 1 {
			t.Fatal(a, inverse)
		}
		for _, b := range l {
			if Mul(a, b) != Mul(b, a) || add(t, a, b) != add(t, b, a) || (Mul(a, b) == 0) != (a == 0 || b == 0) {
				t.Fatal(a, b)
			}
			for _, c := range l {
				if Mul(a, Mul(b, c)) != Mul(Mul(a, b), c) || add(t, a, add(t, b, c)) != add(t, add(t, a, b), c) || Mul(a, add(t, b, c)) != add(t, Mul(a, b), Mul(a, c)) {
					t.Fatal(a, b, c)
				}
			}
		}
	}
}

// P24.4: exponents of powers add up.
func TestPowers(t *testing.T) {
	for _, m := range []int{0, 1, 2, 63, 64, 1000, 4095, 4096} {
		for n := range 4097 {
			if Mul(Power(m), Power(n)) != Power(m+n) {
				t.Fatal(m, n)
			}
		}
	}
}

// P24.4: equal words have equal hashes, at any place and in any text; the hashes of a few different runs differ.
func TestEqualRuns(t *testing.T) {
	a, e := normalize.Words("a", "x = f ( y ) ;\n\nreturn x + 1", true, true)
	b, f := normalize.Words("b", "{ }\n{u=g(v);return\nw+2}", true, true)
	if e != api.OK || f != api.OK {
		t.Fatal(e, f)
	}
	for k := 1; k <= len(a.Words); k++ {
		g, _ := Grams(a.Words, k)
		h, _ := Grams(b.Words, k)
		for i := range g {
			for j := range h {
				if (g[i] == h[j]) != (normalize.Common(a, i, b, j) >= k) {
					t.Error(k, i, j, g[i], h[j])
				}
			}
		}
	}
	// the run of the text a, which is x = ... + 1, begins in b at 3
	if n := normalize.Common(a, 0, b, 3); n != len(a.Words) {
		t.Error(n)
	}
}
