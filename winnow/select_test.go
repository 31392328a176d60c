package winnow

import (
	"math"
	"slices"
	"testing"

	"licit/api"
)

// P25.1: selected positions of short lists.
func TestSelect(t *testing.T) {
	least, greatest := math.MinInt, math.MaxInt
	for i, x := range []struct {
		l    []int
		w    int
		want []int
	}{
		{[]int{7, 3, 5, 3, 9}, 3, []int{1, 3}},
		// no numbers, fewer than a window has, just as many, and one more
		{nil, 1, nil}, {nil, 1024, nil}, {[]int{}, 3, nil}, {[]int{5}, 2, nil}, {[]int{5, 4}, 3, nil}, {[]int{5, 4, 3}, 1024, nil},
		{[]int{5}, 1, []int{0}}, {[]int{5, 4, 6}, 3, []int{1}}, {[]int{5, 4, 6, 5}, 3, []int{1}}, {[]int{4, 5, 6, 5}, 3, []int{0, 3}}, {[]int{4, 5, 6, 3}, 3, []int{0, 3}},
		// windows of one number
		{[]int{5, 5, 4, 6, -1}, 1, []int{0, 1, 2, 3, 4}},
		// equal numbers: the rightmost one
		{[]int{3, 3, 3}, 3, []int{2}}, {[]int{3, 3, 3}, 2, []int{1, 2}}, {[]int{3, 3, 3, 3, 3}, 4, []int{3, 4}}, {[]int{1, 5, 1, 5, 1}, 3, []int{2, 4}}, {[]int{1, 5, 1, 5, 1}, 5, []int{4}}, {[]int{1, 5, 1, 5, 5}, 4, []int{2}}, {[]int{0, 0}, 1, []int{0, 1}},
		// ascending and descending
		{[]int{1, 2, 3, 4, 5}, 2, []int{0, 1, 2, 3}}, {[]int{5, 4, 3, 2, 1}, 2, []int{1, 2, 3, 4}}, {[]int{1, 2, 3, 4, 5}, 5, []int{0}}, {[]int{5, 4, 3, 2, 1}, 5, []int{4}}, {[]int{1, 2, 3, 4, 5}, 6, nil},
		// numbers below 0, and at the ends
		{[]int{-1, 0, -2, 1, -3}, 2, []int{0, 2, 4}}, {[]int{0, -1, 1}, 3, []int{1}}, {[]int{greatest, least, greatest, 0}, 2, []int{1, 3}}, {[]int{greatest, greatest}, 2, []int{1}}, {[]int{least, least, greatest}, 2, []int{1}},
		{[]int{least, least + 1, 0}, 3, []int{0}}, {[]int{greatest, 0, greatest - 1}, 2, []int{1}}, {[]int{0, least, greatest, -1}, 3, []int{1}}, {[]int{greatest, least}, 1, []int{0, 1}},
		// a number that is selected by windows far from each other, with lesser ones around it
		{[]int{1, 9, 5, 9, 1}, 3, []int{0, 2, 4}}, {[]int{2, 8, 7, 6, 5, 8, 8, 8}, 3, []int{0, 3, 4, 7}}, {[]int{9, 1, 9, 9, 9, 9, 2}, 3, []int{1, 4, 5, 6}},
	} {
		if l, e := Select(x.l, x.w); e != api.OK || !slices.Equal(l, x.want) {
			t.Error(i, l, e)
		}
	}
}

// P25.1: as many numbers as possible, and one more; the greatest window, and greater ones.
func TestSelectLimits(t *testing.T) {
	up, down := ascending(-4000, 1, api.MaxWords), ascending(4000, -1, api.MaxWords)
	for _, w := range []int{1, 2, 3, 1023, 1024} {
		if l, e := Select(up, w); e != api.OK || !slices.Equal(l, ascending(0, 1, api.MaxWords-w+1)) {
			t.Error(w, len(l), e)
		}
		if l, e := Select(down, w); e != api.OK || !slices.Equal(l, ascending(w-1, 1, api.MaxWords-w+1)) {
			t.Error(w, len(l), e)
		}
		if l, e := Select(make([]int, api.MaxWords), w); e != api.OK || !slices.Equal(l, ascending(w-1, 1, api.MaxWords-w+1)) {
			t.Error(w, len(l), e)
		}
		// fewer numbers than a window, as many, and one more
		for n := max(0, w-2); n <= w+1; n++ {
			if l, e := Select(up[:n], w); e != api.OK || !slices.Equal(l, ascending(0, 1, n-w+1)) {
				t.Error(w, n, l, e)
			}
		}
	}
	// the last number alone is less
	l := make([]int, api.MaxWords)
	l[len(l)-1] = -1
	if got, e := Select(l, 1024); e != api.OK || !slices.Equal(got, ascending(1023, 1, api.MaxWords-1023)) {
		t.Error(len(got), e)
	}
	for i, x := range []struct {
		n, w int
		e    api.Errno
	}{
		{0, 0, api.ErrRange}, {5, 0, api.ErrRange}, {5, -1, api.ErrRange}, {5, 1025, api.ErrRange}, {5, math.MinInt, api.ErrRange}, {5, math.MaxInt, api.ErrRange}, {api.MaxWords, api.MaxWords, api.ErrRange},
		{8193, 1, api.ErrTooLarge}, {8193, 1024, api.ErrTooLarge}, {20000, 3, api.ErrTooLarge},
		// both errors
		{8193, 0, api.ErrRange}, {8193, 1025, api.ErrRange},
	} {
		if l, e := Select(make([]int, x.n), x.w); e != x.e || l != nil {
			t.Error(i, len(l), e)
		}
	}
}

// P25.1: what one window selects: one number, all of them, and some between.
func TestLeast(t *testing.T) {
	least, greatest := math.MinInt, math.MaxInt
	l := []int{7, 3, 5, 3, 9, -1, least, greatest, least, greatest, greatest}
	for _, x := range [][3]int{
		{0, 1, 0}, {4, 5, 4}, {10, 11, 10}, {6, 7, 6},
		{0, 2, 1}, {0, 3, 1}, {0, 4, 3}, {0, 5, 3}, {1, 4, 3}, {1, 3, 1}, {2, 4, 3}, {2, 3, 2}, {0, 6, 5}, {0, 7, 6}, {0, 8, 6}, {0, 9, 8}, {0, 11, 8}, {7, 8, 7}, {7, 9, 8}, {9, 11, 10}, {4, 6, 5}, {3, 5, 3},
	} {
		if at, e := Least(l, x[0], x[1]); e != api.OK || at != x[2] {
			t.Error(x, at, e)
		}
	}
	for _, x := range [][2]int{{0, 0}, {5, 5}, {11, 11}, {-1, 0}, {-1, 1}, {-1, 11}, {-2, -1}, {3, 2}, {11, 10}, {0, 12}, {10, 12}, {11, 12}, {12, 13}, {12, 12}, {0, -1}, {least, greatest}, {greatest, least}, {least, 1}, {0, greatest}, {greatest, greatest}, {least, least}} {
		if at, e := Least(l, x[0], x[1]); e != api.ErrRange || at != 0 {
			t.Error(x, at, e)
		}
	}
	for _, none := range [][]int{nil, {}} {
		for _, x := range [][2]int{{0, 0}, {0, 1}, {-1, 0}} {
			if at, e := Least(none, x[0], x[1]); e != api.ErrRange || at != 0 {
				t.Error(x, at, e)
			}
		}
	}
}

// P25.1: a window of Least may have more numbers than one of Select, and a list more than a text has words.
func TestLeastOfMany(t *testing.T) {
	l := make([]int, 3*api.MaxWords)
	for _, x := range [][3]int{{0, len(l), len(l) - 1}, {0, 1025, 1024}, {0, api.MaxWords + 1, api.MaxWords}, {len(l) - 1, len(l), len(l) - 1}} {
		if at, e := Least(l, x[0], x[1]); e != api.OK || at != x[2] {
			t.Error(x, at, e)
		}
	}
	l[1] = -1
	if at, e := Least(l, 0, len(l)); e != api.OK || at != 1 {
		t.Error(at, e)
	}
}
