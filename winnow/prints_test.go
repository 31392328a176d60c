package winnow

import (
	"math"
	"slices"
	"testing"

	"licit/api"
	"licit/rolling"
	"licit/sample"
)

// P25.2: fingerprints of short texts.
func TestPrints(t *testing.T) {
	// the hashes of these words are 99, 100, 101 and 102
	abc := sample.Text("x", "0 a b", "1 a", "5 c a d")
	ab, ba, ac, ca, ad := 99*1000003+100, 100*1000003+99, 99*1000003+101, 101*1000003+99, 99*1000003+102
	for i, x := range []struct {
		text api.Text
		k, w int
		want []api.Print
	}{
		{abc, 1, 1, []api.Print{{Hash: 99, At: 0}, {Hash: 100, At: 1}, {Hash: 99, At: 2}, {Hash: 101, At: 3}, {Hash: 99, At: 4}, {Hash: 102, At: 5}}},
		{abc, 1, 2, []api.Print{{Hash: 99, At: 0}, {Hash: 99, At: 2}, {Hash: 99, At: 4}}},
		{abc, 1, 3, []api.Print{{Hash: 99, At: 2}, {Hash: 99, At: 4}}},
		{abc, 1, 6, []api.Print{{Hash: 99, At: 4}}},
		{abc, 1, 7, nil},
		{abc, 2, 1, []api.Print{{Hash: ab, At: 0}, {Hash: ba, At: 1}, {Hash: ac, At: 2}, {Hash: ca, At: 3}, {Hash: ad, At: 4}}},
		{abc, 2, 2, []api.Print{{Hash: ab, At: 0}, {Hash: ac, At: 2}, {Hash: ad, At: 4}}},
		{abc, 2, 5, []api.Print{{Hash: ab, At: 0}}},
		{abc, 2, 6, nil},
		{abc, 6, 1, []api.Print{{Hash: rolling.Hash(abc.Words), At: 0}}},
		// fewer words than a run has
		{abc, 7, 1, nil}, {abc, 1024, 1, nil}, {abc, 1, 1024, nil}, {abc, 1024, 1024, nil},
		{sample.Text("x"), 1, 1, nil}, {sample.Text("x"), 1024, 1024, nil}, {sample.Text("x", "7 a"), 1, 1, []api.Print{{Hash: 99, At: 0}}}, {sample.Text("x", "7 a"), 2, 1, nil},
		// equal words: the rightmost one
		{sample.Text("x", "0 a a a a"), 2, 2, []api.Print{{Hash: 99*1000003 + 99, At: 1}, {Hash: 99*1000003 + 99, At: 2}}},
		{sample.Text("a/b", "0 a a a a"), 1, 4, []api.Print{{Hash: 99, At: 3}}},
	} {
		if l, e := Prints(x.text, x.k, x.w); e != api.OK || !slices.Equal(l, x.want) {
			t.Error(i, l, e)
		}
	}
}

// P25.2: the longest text, with the least and the greatest numbers.
func TestPrintsLimits(t *testing.T) {
	full := sample.Many(api.MaxWords)
	for _, k := range []int{1, 2, 1023, 1024} {
		grams, _ := rolling.Grams(full.Words, k)
		for _, w := range []int{1, 2, 1023, 1024} {
			var want []api.Print
			for _, at := range plainSelect(grams, w) {
				want = append(want, api.Print{Hash: rolling.Hash(full.Words[at : at+k]), At: at})
			}
			if l, e := Prints(full, k, w); e != api.OK || !slices.Equal(l, want) || len(l) == 0 {
				t.Error(k, w, len(l), len(want), e)
			}
		}
	}
	// just as many words as one window needs, and one less
	for _, x := range [][2]int{{1, 1024}, {1024, 1}, {1024, 1024}, {500, 24}} {
		n, e := Guarantee(x[0], x[1])
		if l, f := Prints(sample.Many(n), x[0], x[1]); e != api.OK || f != api.OK || len(l) != 1 {
			t.Error(x, l, e, f)
		}
		if l, f := Prints(sample.Many(n-1), x[0], x[1]); f != api.OK || l != nil {
			t.Error(x, l, f)
		}
	}
}

// outside returns numbers that are neither the size of a run nor that of a window.
func outside() []int {
	return []int{0, -1, -1024, api.MaxList + 1, api.MaxWords, math.MinInt, math.MaxInt}
}

// P25.2: texts that are not valid, then numbers outside.
func TestPrintsErrors(t *testing.T) {
	for i, x := range sample.BadTexts() {
		for _, y := range [][2]int{{1, 1}, {2, 3}, {1024, 1024}, {0, 1}, {1, 0}, {1025, 1025}, {math.MinInt, math.MaxInt}} {
			if l, e := Prints(x, y[0], y[1]); e != api.ErrArg || l != nil {
				t.Error(i, y, l, e)
			}
		}
	}
	for _, x := range []api.Text{sample.Text("x"), sample.Text("x", "0 a b", "7 c"), sample.Many(api.MaxWords)} {
		for _, bad := range outside() {
			for _, y := range [][2]int{{bad, 1}, {1, bad}, {bad, 1024}, {1024, bad}, {bad, bad}} {
				if l, e := Prints(x, y[0], y[1]); e != api.ErrRange || l != nil {
					t.Error(y, l, e)
				}
			}
		}
	}
}

// P25.2: guarantees at both ends, and outside.
func TestGuarantee(t *testing.T) {
	for _, x := range [][3]int{{4, 3, 6}, {1, 1, 1}, {1, 2, 2}, {2, 1, 2}, {1, 1024, 1024}, {1024, 1, 1024}, {1024, 1024, 2047}, {1023, 1024, 2046}, {50, 30, 79}} {
		if n, e := Guarantee(x[0], x[1]); e != api.OK || n != x[2] {
			t.Error(x, n, e)
		}
	}
	for _, bad := range outside() {
		for _, y := range [][2]int{{bad, 1}, {1, bad}, {bad, 1024}, {1024, bad}, {bad, bad}, {bad, -bad}} {
			if n, e := Guarantee(y[0], y[1]); e != api.ErrRange || n != 0 {
				t.Error(y, n, e)
			}
		}
	}
}

// P25.3: pairs of places with equal hashes.
func TestShared(t *testing.T) {
	for i, x := range []struct {
		a, b []api.Print
		want [][2]int
	}{
		{nil, nil, nil}, {nil, prints(1), nil}, {prints(1), nil, nil}, {[]api.Print{}, []api.Print{}, nil}, {prints(1), prints(2), nil}, {prints(1), prints(1), [][2]int{{0, 0}}},
		{prints(1, 2, 3), prints(3, 1, 4), [][2]int{{0, 1}, {2, 0}}}, {prints(3, 1, 4), prints(1, 2, 3), [][2]int{{0, 2}, {1, 0}}},
		// equal hashes on one side, and on both
		{prints(1, 2, 1), prints(1), [][2]int{{0, 0}, {2, 0}}}, {prints(1), prints(1, 2, 1), [][2]int{{0, 0}, {0, 2}}},
		{prints(1, 2, 1, 2), prints(2, 1, 1, 3, 2), [][2]int{{0, 1}, {0, 2}, {1, 0}, {1, 4}, {2, 1}, {2, 2}, {3, 0}, {3, 4}}},
		// places far from each other, and hashes that no words have
		{[]api.Print{{Hash: -5, At: math.MinInt}, {Hash: 0, At: -1}, {Hash: math.MaxInt, At: math.MaxInt}}, []api.Print{{Hash: math.MaxInt, At: -7}, {Hash: math.MinInt, At: 0}, {Hash: -5, At: 90000}}, [][2]int{{math.MinInt, 90000}, {math.MaxInt, -7}}},
		// an equal place means nothing
		{[]api.Print{{Hash: 1, At: 5}}, []api.Print{{Hash: 2, At: 5}}, nil},
	} {
		if l, e := Shared(x.a, x.b); e != api.OK || !slices.Equal(l, x.want) {
			t.Error(i, l, e)
		}
	}
}

// P25.3: lists that are out of order, or hold a place twice, on either side.
func TestSharedOrder(t *testing.T) {
	good := []api.Print{{Hash: 1, At: 3}, {Hash: 1, At: 4}, {Hash: 2, At: 9}}
	for i, bad := range [][]api.Print{
		{{Hash: 1, At: 3}, {Hash: 2, At: 3}}, {{Hash: 1, At: 3}, {Hash: 1, At: 3}}, {{Hash: 1, At: 4}, {Hash: 2, At: 3}}, {{Hash: 7, At: 1}, {Hash: 8, At: 2}, {Hash: 9, At: 2}}, {{Hash: 7, At: 1}, {Hash: 8, At: 2}, {Hash: 9, At: 1}},
		{{Hash: 7, At: 2}, {Hash: 8, At: 1}, {Hash: 9, At: 3}}, {{Hash: 1, At: 0}, {Hash: 1, At: -1}}, {{Hash: 1, At: math.MaxInt}, {Hash: 1, At: math.MinInt}}, {{Hash: 2, At: 1}, {Hash: 1, At: 0}},
	} {
		for _, x := range [][2][]api.Print{{bad, good}, {good, bad}, {bad, nil}, {nil, bad}, {bad, bad}} {
			if l, e := Shared(x[0], x[1]); e != api.ErrOrder || l != nil {
				t.Error(i, l, e)
			}
		}
	}
}

// P25.3: as many pairs as possible, and one more; lists of any length.
func TestSharedLimits(t *testing.T) {
	ones := prints(make([]int, 33)...)
	for _, x := range [][2]int{{32, 32}, {1, 1}, {31, 33}, {33, 31}} {
		if l, e := Shared(ones[:x[0]], ones[:x[1]]); e != api.OK || len(l) != x[0]*x[1] || !slices.Equal(l, plainShared(ones[:x[0]], ones[:x[1]])) {
			t.Error(x, len(l), e)
		}
	}
	if l, e := Shared(ones[:32], ones); e != api.ErrTooLarge || l != nil {
		t.Error(len(l), e)
	}
	long := prints(ascending(0, 1, 1025)...)
	for _, n := range []int{1023, 1024} {
		if l, e := Shared(long[:n], long); e != api.OK || len(l) != n || l[n-1] != [2]int{n - 1, n - 1} {
			t.Error(n, len(l), e)
		}
	}
	if l, e := Shared(long, long); e != api.ErrTooLarge || l != nil {
		t.Error(len(l), e)
	}
	// lists with more fingerprints than a text can have, which share one
	other := prints(ascending(-99999, 1, 100000)...)
	if l, e := Shared(prints(ascending(0, 1, 100000)...), other); e != api.OK || !slices.Equal(l, [][2]int{{0, 99999}}) {
		t.Error(l, e)
	}
	// too many pairs of lists of which the second one is out of order at its end
	late := append(slices.Clone(long), api.Print{Hash: -1, At: 3})
	for _, x := range [][2][]api.Print{{long, late}, {late, long}} {
		if l, e := Shared(x[0], x[1]); e != api.ErrOrder || l != nil {
			t.Error(len(l), e)
		}
	}
}
