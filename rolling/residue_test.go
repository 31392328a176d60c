package rolling

import (
	"math"
	"math/big"
	"math/rand"
	"testing"

	"licit/api"
)

// P24.1: products of residues.
func TestMul(t *testing.T) {
	for _, x := range []struct{ a, b, want int }{
		{0, 0, 0}, {0, 1, 0}, {1, 1, 1}, {2, 3, 6}, {1, p - 1, p - 1}, {0, p - 1, 0},
		// products at p, and behind it
		{2, (p - 1) / 2, p - 1}, {2, (p + 1) / 2, 1}, {2, p - 1, p - 2}, {p - 1, p - 1, 1}, {p - 1, p - 2, 2}, {p - 2, p - 2, 4},
		{1 << 30, 1 << 30, 1 << 60}, {1 << 31, 1 << 30, 1}, {1 << 60, 2, 1}, {1 << 60, 1 << 60, 1 << 59}, {1 << 32, 1 << 32, 8},
		{1000003, 1000003, 1000006000009},
	} {
		if n := Mul(x.a, x.b); n != x.want {
			t.Error(x, n)
		}
		if n := Mul(x.b, x.a); n != x.want {
			t.Error(x, n)
		}
	}
	l := residues(rand.New(rand.NewSource(1)))
	for _, a := range l {
		for _, b := range l {
			if n, want := Mul(a, b), mod(mulAdd(big.NewInt(int64(a)), b, 0)); n != want {
				t.Fatal(a, b, n, want)
			}
		}
	}
}

// P24.1: numbers that are no residues, on the left, on the right and on both sides.
func TestMulOfOthers(t *testing.T) {
	for _, a := range noResidues() {
		for _, b := range append(residues(rand.New(rand.NewSource(2))), noResidues()...) {
			if m, n := Mul(a, b), Mul(b, a); m != 0 || n != 0 {
				t.Error(a, b, m, n)
			}
		}
	}
}

// P24.1: powers of the base, and numbers that are no exponents.
func TestPower(t *testing.T) {
	for _, x := range [][2]int{{0, 1}, {1, 1000003}, {2, 1000006000009}, {3, 1000009000027000027}} {
		if n := Power(x[0]); n != x[1] {
			t.Error(x, n)
		}
	}
	power := 1
	for n := range api.MaxWords + 1 {
		if got := Power(n); got != power {
			t.Fatal(n, got, power)
		}
		power = mod(mulAdd(big.NewInt(int64(power)), 1000003, 0))
	}
	if n := Power(8192); n != plainPower(8192) || n == 0 {
		t.Error(n)
	}
	for _, n := range []int{-1, -2, -8192, 8193, 8194, 16384, math.MaxInt, math.MinInt} {
		if got := Power(n); got != 0 {
			t.Error(n, got)
		}
	}
}
