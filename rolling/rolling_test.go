package rolling

import (
	"math"
	"math/big"
	"math/rand"
	"slices"
	"strings"
	"testing"

	"licit/api"
)

// P24.1: codes of words: the empty one, those of each byte, and long ones.
func TestCode(t *testing.T) {
	for _, x := range []struct {
		word string
		want int
	}{
		{"", 0}, {"a", 98}, {"ab", 25285}, {"ba", 99*257 + 98}, {"\x00", 1}, {"\x00\x00", 258}, {"\xff", 256}, {"\xff\xff", 256 * 258}, {"\x00a", 257 + 98}, {"a\x00", 98*257 + 1},
		{"é", 0xc4*257 + 0xaa},
	} {
		if n := Code(x.word); n != x.want {
			t.Errorf("%q %d", x.word, n)
		}
	}
	all := ""
	for c := range 256 {
		b := string([]byte{byte(c)})
		if n := Code(b); n != c+1 {
			t.Error(c, n)
		}
		all += b
		if n := Code(all); n != plainCode(all) {
			t.Error(c, n)
		}
	}
	for _, word := range []string{all + all, strings.Repeat("\xff", 7), strings.Repeat("\xff", 8), strings.Repeat("\x00", 9), strings.Repeat("x", api.MaxData), "two words\n"} {
		if n := Code(word); n != plainCode(word) {
			t.Error(len(word), n)
		}
	}
	// words whose code is the least and the greatest one, or next to it
	for _, code := range []int{0, 1, p - 2, p - 1} {
		if word := coded(code); word == "" || Code(word) != code {
			t.Errorf("%q %d", word, code)
		}
	}
}

// P24.2: hashes of no words, of one, and of many, whose lines do not matter.
func TestHash(t *testing.T) {
	greatest, least := coded(p-1), coded(0)
	for i, x := range []struct {
		l    []api.Lexeme
		want int
	}{
		{nil, 0}, {[]api.Lexeme{}, 0},
		{words("a"), 99}, {words(""), 1}, {words("", ""), 1000004}, {words("a", "b"), 99000397}, {words("b", "a"), 100000399}, {words("ab"), 25286},
		{words("a", "a", "a"), 99 * (1000006000009 + 1000003 + 1)},
		// a word that adds nothing, but moves what stands in front of it
		{words(greatest), 0}, {words("a", greatest), 99 * 1000003}, {words(greatest, "a"), 99}, {words(least), 1},
		{[]api.Lexeme{{Text: "a", Line: -7}, {Text: "b", Line: math.MaxInt}}, 99000397},
	} {
		if n := Hash(x.l); n != x.want {
			t.Error(i, n)
		}
	}
	for _, n := range []int{1, 2, 3, 50, 1000, api.MaxWords, api.MaxWords + 1, api.MaxWords + 500} {
		l := many(n)
		want := 0
		for _, w := range l {
			want = mod(mulAdd(big.NewInt(int64(want)), 1000003, plainCode(w.Text)+1))
		}
		if got := Hash(l); got != want {
			t.Error(n, got, want)
		}
		if n <= 1000 && want != plainHash(l) {
			t.Error(n, want)
		}
	}
}

// P24.2: hashes of all runs: of one word, of several, of all words and of more.
func TestGrams(t *testing.T) {
	for i, x := range []struct {
		l    []api.Lexeme
		k    int
		want []int
	}{
		{nil, 1, nil}, {nil, api.MaxWords, nil}, {words("a"), 1, []int{99}}, {words("a"), 2, nil}, {words("a"), api.MaxWords, nil},
		{words("a", "b"), 1, []int{99, 100}}, {words("a", "b"), 2, []int{99000397}}, {words("a", "b"), 3, nil},
		{words("a", "b", "a"), 2, []int{99000397, 100000399}}, {words("", "", ""), 2, []int{1000004, 1000004}}, {words("", "a", ""), 1, []int{1, 99, 1}},
		{words(coded(p-1), "a", coded(p-1)), 2, []int{99, 99 * 1000003}},
	} {
		if l, e := Grams(x.l, x.k); e != api.OK || !slices.Equal(l, x.want) {
			t.Error(i, l, e)
		}
	}
	l := many(300)
	for k := range 305 {
		if k == 0 {
			continue
		}
		var want []int
		for i := 0; i+k <= len(l); i++ {
			want = append(want, Hash(l[i:i+k]))
		}
		if got, e := Grams(l, k); e != api.OK || !slices.Equal(got, want) {
			t.Fatal(k, got, e)
		}
	}
}

// P24.2: as many words as possible, runs of so many, and one word more.
func TestGramsLimits(t *testing.T) {
	full := many(api.MaxWords)
	for _, k := range []int{1, 2, 1000, api.MaxWords - 1, api.MaxWords} {
		l, e := Grams(full, k)
		if e != api.OK || len(l) != api.MaxWords-k+1 || l[0] != Hash(full[:k]) || l[len(l)-1] != Hash(full[api.MaxWords-k:]) || l[len(l)/2] != Hash(full[len(l)/2:len(l)/2+k]) {
			t.Error(k, len(l), e)
		}
	}
	for _, x := range []struct {
		words, k int
		e        api.Errno
	}{
		{2, 0, api.ErrRange}, {2, -1, api.ErrRange}, {2, math.MinInt, api.ErrRange}, {2, api.MaxWords + 1, api.ErrRange}, {2, math.MaxInt, api.ErrRange}, {0, 0, api.ErrRange}, {0, api.MaxWords + 1, api.ErrRange},
		{api.MaxWords + 1, 1, api.ErrTooLarge}, {api.MaxWords + 1, api.MaxWords, api.ErrTooLarge}, {2 * api.MaxWords, 5, api.ErrTooLarge},
		// both errors
		{api.MaxWords + 1, 0, api.ErrRange}, {api.MaxWords + 1, api.MaxWords + 1, api.ErrRange},
	} {
		if l, e := Grams(many(x.words), x.k); e != x.e || l != nil {
			t.Error(x, len(l), e)
		}
	}
}

// P24.3: hashes of words behind others.
func TestJoin(t *testing.T) {
	for _, x := range []struct{ a, b, n, want int }{
		{0, 0, 0, 0}, {99, 100, 1, 99000397}, {99, 0, 0, 99}, {0, 99, 0, 99}, {0, 99, 5, 99}, {0, 99, api.MaxWords, 99}, {1, 0, 2, 1000006000009},
		// without words behind, only sums are left: up to p, at it, and behind it
		{1, p - 2, 0, p - 1}, {1, p - 1, 0, 0}, {p - 1, p - 1, 0, p - 2}, {p - 1, 1, 0, 0}, {p - 1, 2, 0, 1},
	} {
		if n, e := Join(x.a, x.b, x.n); e != api.OK || n != x.want {
			t.Error(x, n, e)
		}
	}
	l := residues(rand.New(rand.NewSource(3)))
	for _, a := range l {
		for _, b := range l {
			for _, n := range []int{0, 1, 2, 77, api.MaxWords - 1, api.MaxWords} {
				if got, e := Join(a, b, n); e != api.OK || got != mod(mulAdd(big.NewInt(int64(a)), plainPower(n), b)) {
					t.Fatal(a, b, n, got, e)
				}
			}
		}
	}
}

// P24.3: numbers that are no residues, and numbers of words that no text has.
func TestJoinErrors(t *testing.T) {
	for _, bad := range noResidues() {
		for _, x := range [][3]int{{bad, 0, 0}, {0, bad, 0}, {bad, bad, 5}, {bad, 0, -1}, {0, bad, api.MaxWords + 1}} {
			if n, e := Join(x[0], x[1], x[2]); e != api.ErrRange || n != 0 {
				t.Error(x, n, e)
			}
		}
	}
	for _, bad := range []int{-1, -8192, api.MaxWords + 1, 2 * api.MaxWords, math.MaxInt, math.MinInt} {
		if n, e := Join(99, 100, bad); e != api.ErrRange || n != 0 {
			t.Error(bad, n, e)
		}
	}
}

// P24.3: hashes of runs that move on by a word.
func TestRoll(t *testing.T) {
	greatest := coded(p - 1)
	for _, x := range []struct {
		hash    int
		out, in string
		k, want int
	}{
		{99, "a", "b", 1, 100}, {99, "a", "a", 1, 99}, {99, "a", "", 1, 1}, {1, "", "a", 1, 99}, {99000397, "a", "a", 2, 100000399}, {100000399, "b", "b", 2, 99000397},
		{99, "a", greatest, 1, 0}, {0, greatest, "a", 1, 99}, {99, greatest, "b", 2, 99000397}, {0, greatest, greatest, 1, 0},
		// hashes of which the word is none of the run: the number is still that of the formula
		{0, "a", "", 1, p - 99*1000003 + 1}, {0, "", "", 1, p - 1000002}, {p - 1, "", "", 1, p - 2000005}, {1, "", greatest, 1, 0},
	} {
		if n, e := Roll(x.hash, x.out, x.in, x.k); e != api.OK || n != x.want {
			t.Errorf("%d %q %q %d: %d %v", x.hash, x.out, x.in, x.k, n, e)
		}
	}
	for _, hash := range residues(rand.New(rand.NewSource(4))) {
		for _, out := range []string{"", "a", "\xff\xff\xff\xff\xff\xff\xff\xff", greatest, coded(0)} {
			for _, in := range []string{"", "b", "\xff\xff\xff\xff\xff\xff\xff\xff", greatest, coded(p - 2)} {
				for _, k := range []int{1, 2, 3, 100, api.MaxWords - 1, api.MaxWords} {
					front := mulAdd(big.NewInt(int64(plainCode(out))+1), plainPower(k-1), 0)
					rest := new(big.Int).Sub(big.NewInt(int64(hash)), front)
					want := mod(mulAdd(rest, 1000003, plainCode(in)+1))
					if got, e := Roll(hash, out, in, k); e != api.OK || got != want {
						t.Fatal(hash, out, in, k, got, e)
					}
				}
			}
		}
	}
}

// P24.3: a hash that is no residue, and runs of as many words as no text has.
func TestRollErrors(t *testing.T) {
	for _, bad := range noResidues() {
		for _, k := range []int{1, api.MaxWords, 0} {
			if n, e := Roll(bad, "a", "b", k); e != api.ErrRange || n != 0 {
				t.Error(bad, k, n, e)
			}
		}
	}
	for _, k := range []int{0, -1, -8192, api.MaxWords + 1, math.MaxInt, math.MinInt} {
		if n, e := Roll(99, "a", "b", k); e != api.ErrRange || n != 0 {
			t.Error(k, n, e)
		}
	}
}

// P24.2: arguments are not changed, and results share no memory.
func TestMemory(t *testing.T) {
	l := words("a", "b", "c")
	before := slices.Clone(l)
	g, _ := Grams(l, 2)
	h, _ := Grams(l, 2)
	clear(g)
	Hash(l)
	if !slices.Equal(l, before) || !slices.Equal(h, []int{99000397, 100*1000003 + 101}) {
		t.Error(l, h)
	}
}
