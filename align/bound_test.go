package align

import (
	"math"
	"slices"
	"testing"

	"licit/api"
)

// P28.3: the distances of all beginnings.
func TestPotential(t *testing.T) {
	for _, x := range []struct {
		a, b string
		c    api.Costs
		want [][]int
	}{
		{"", "", costs(1, 1, 1), [][]int{{0}}}, {"", "ab", costs(1, 2, 3), [][]int{{0, 3, 6}}}, {"ab", "", costs(1, 2, 3), [][]int{{0}, {2}, {4}}},
		{"a", "a", costs(9, 2, 3), [][]int{{0, 3}, {2, 0}}}, {"a", "b", costs(4, 2, 3), [][]int{{0, 3}, {2, 4}}}, {"a", "b", costs(6, 2, 3), [][]int{{0, 3}, {2, 5}}},
		{"ab", "ba", costs(9, 2, 3), [][]int{{0, 3, 6}, {2, 5, 3}, {4, 2, 5}}}, {"ab", "ba", costs(1, 2, 3), [][]int{{0, 3, 6}, {2, 1, 3}, {4, 2, 2}}},
	} {
		p, e := Potential(letters(x.a), letters(x.b), x.c)
		if e != api.OK || !isTable(p, x.want) {
			t.Error(x, p, e)
		}
		if n, e := Bound(letters(x.a), letters(x.b), x.c, p); e != api.OK || n != x.want[len(x.a)][len(x.b)] {
			t.Error(x, n, e)
		}
	}
}

// P28.3: tables that are potentials and prove less than the distance, which is 15.
func TestLesserBounds(t *testing.T) {
	a, b, c := letters("xa"), letters("ayz"), costs(4, 5, 7)
	// x is changed to a, a to y, and z is added
	if d, e := Distance(a, b, c); e != api.OK || d != 15 {
		t.Error(d, e)
	}
	for i, p := range [][][]int{
		{{0, 0, 0, 0}, {0, 0, 0, 0}, {0, 0, 0, 0}},
		{{0, 0, 0, 0}, {0, 0, 0, 0}, {0, 0, 0, 4}},
		{{0, 1, 2, 3}, {1, 2, 3, 4}, {2, 1, 4, 5}},
		{{0, 7, 14, 21}, {5, 4, 11, 18}, {10, 5, 8, 14}},
		{{0, 7, 14, 21}, {5, 4, 11, 18}, {10, 5, 8, 15}},
		{{0, 7, 14, 0}, {5, 0, 7, 5}, {0, 5, 4, 10}},
	} {
		if n, e := Bound(a, b, c, p); e != api.OK || n != p[2][3] {
			t.Error(i, n, e)
		}
	}
}

// P28.3: tables that do not have their form.
func TestBoundForm(t *testing.T) {
	a, b, c := letters("xa"), letters("ayz"), costs(4, 5, 7)
	zero := func(rows ...int) [][]int {
		var p [][]int
		for _, n := range rows {
			p = append(p, make([]int, n))
		}
		return p
	}
	if n, e := Bound(a, b, c, zero(4, 4, 4)); e != api.OK || n != 0 {
		t.Error(n, e)
	}
	for _, rows := range [][]int{{}, {4}, {4, 4}, {4, 4, 4, 4}, {4, 4, 4, 0}, {3, 4, 4}, {4, 3, 4}, {4, 4, 3}, {5, 4, 4}, {4, 5, 4}, {4, 4, 5}, {0, 4, 4}, {4, 0, 4}, {4, 4, 0}, {0, 0, 0}, {3, 3, 3}, {5, 5, 5}, {3, 3, 3, 3}, {12}} {
		if n, e := Bound(a, b, c, zero(rows...)); e != api.ErrProof || n != 0 {
			t.Error(rows, n, e)
		}
	}
	for _, rows := range [][]int{{}, {0}, {2}, {1, 1}, {1, 0}} {
		if n, e := Bound(nil, nil, c, zero(rows...)); e != api.ErrProof || n != 0 {
			t.Error(rows, n, e)
		}
	}
	if n, e := Bound(nil, nil, c, zero(1)); e != api.OK || n != 0 {
		t.Error(n, e)
	}
}

// P28.3: numbers that no potential has, at each place.
func TestBoundNumbers(t *testing.T) {
	a, b, c := letters("xa"), letters("ayz"), costs(4, 5, 7)
	p, _ := Potential(a, b, c)
	for i := range p {
		for j := range p[i] {
			for _, n := range []int{-1, -1000, math.MinInt, 1<<40 - 1, 1 << 40, 1<<40 + 1, math.MaxInt - 1, math.MaxInt} {
				q := copied(p)
				q[i][j] = n
				if got, e := Bound(a, b, c, q); e != api.ErrProof || got != 0 {
					t.Error(i, j, n, got, e)
				}
			}
			// the distances are the greatest numbers
			q := copied(p)
			q[i][j]++
			if got, e := Bound(a, b, c, q); e != api.ErrProof || got != 0 {
				t.Error(i, j, got, e)
			}
		}
	}
	for _, n := range []int{1, -1, 5, 1 << 40, 1<<40 + 1, math.MinInt, math.MaxInt} {
		if got, e := Bound(nil, nil, c, [][]int{{n}}); e != api.ErrProof || got != 0 {
			t.Error(n, got, e)
		}
		// all numbers are as much greater
		q := copied(p)
		for i := range q {
			for j := range q[i] {
				q[i][j] += n
			}
		}
		if got, e := Bound(a, b, c, q); e != api.ErrProof || got != 0 {
			t.Error(n, got, e)
		}
	}
}

// P28.3: each of the conditions alone, broken by one; all others hold.
func TestBoundConditions(t *testing.T) {
	c := costs(10, 4, 8)
	for _, x := range []struct {
		a, b string
		p    [][]int
	}{
		// the first row and the first column
		{"", "a", [][]int{{0, 8}}}, {"a", "", [][]int{{0}, {4}}}, {"", "ab", [][]int{{0, 3, 11}}}, {"ab", "", [][]int{{0}, {3}, {7}}},
		// from above, where the words are equal, and where they are different
		{"a", "a", [][]int{{0, 0}, {0, 0}}}, {"a", "b", [][]int{{0, 1}, {0, 5}}}, {"aa", "ab", [][]int{{0, 0, 0}, {0, 0, 0}, {0, 0, 4}}},
		// from the left
		{"b", "a", [][]int{{0, 8}, {0, 8}}}, {"a", "b", [][]int{{0, 8}, {1, 9}}},
		// over both
		{"a", "b", [][]int{{0, 8}, {4, 10}}}, {"b", "a", [][]int{{0, 7}, {3, 10}}}, {"a", "a", [][]int{{0, 1}, {1, 0}}}, {"ba", "a", [][]int{{0, 8}, {2, 6}, {0, 2}}},
	} {
		a, b := letters(x.a), letters(x.b)
		n, m := len(a), len(b)
		if got, e := Bound(a, b, c, x.p); e != api.OK || got != x.p[n][m] {
			t.Error(x, got, e)
		}
		// one more breaks one condition, and no other one
		q := copied(x.p)
		q[n][m]++
		broken := 0
		for _, limit := range limits(a, b, c, q, n, m) {
			if q[n][m] > limit {
				broken++
			}
		}
		if got, e := Bound(a, b, c, q); e != api.ErrProof || got != 0 || broken != 1 {
			t.Error(x, got, e, broken)
		}
	}
}

// P28.3: a number that is less than it may be can break a condition of another one.
func TestBoundBehind(t *testing.T) {
	a, b, c := letters("aba"), letters("bab"), costs(4, 5, 7)
	p, _ := Potential(a, b, c)
	for i := range p {
		for j := range p[i] {
			q := copied(p)
			q[i][j] = max(0, q[i][j]-1)
			want := api.OK
			for y := range q {
				for x := range q[y] {
					if y+x > 0 && q[y][x] > slices.Min(limits(a, b, c, q, y, x)) {
						want = api.ErrProof
					}
				}
			}
			if got, e := Bound(a, b, c, q); e != want || e == api.OK && got != q[3][3] {
				t.Error(i, j, got, e, want)
			}
		}
	}
}
