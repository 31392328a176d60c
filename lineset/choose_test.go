package lineset

import (
	"slices"
	"testing"

	"licit/api"
)

// operation is one of the operations with two sets.
type operation = func(a, b api.Lines) (api.Lines, api.Errno)

// P16.3: sets that are disjoint, equal, empty, touch, overlap and contain each other.
func TestOperations(t *testing.T) {
	full := api.Lines{sp("a", 0, api.MaxLines)}
	for i, x := range []struct{ a, b, union, meet, minus, reverse api.Lines }{
		{nil, nil, nil, nil, nil, nil},
		{api.Lines{sp("a", 1, 3)}, nil, api.Lines{sp("a", 1, 3)}, nil, api.Lines{sp("a", 1, 3)}, nil},
		{api.Lines{sp("a", 1, 3)}, api.Lines{sp("a", 1, 3)}, api.Lines{sp("a", 1, 3)}, api.Lines{sp("a", 1, 3)}, nil, nil},
		{full, full, full, full, nil, nil},
		{full, api.Lines{sp("a", 0, 1)}, full, api.Lines{sp("a", 0, 1)}, api.Lines{sp("a", 1, api.MaxLines)}, nil},
		{full, api.Lines{sp("a", api.MaxLines-1, api.MaxLines)}, full, api.Lines{sp("a", api.MaxLines-1, api.MaxLines)}, api.Lines{sp("a", 0, api.MaxLines-1)}, nil},
		// apart, touching, overlapping, one within the other, with a common beginning or end
		{api.Lines{sp("a", 1, 3)}, api.Lines{sp("a", 4, 6)}, api.Lines{sp("a", 1, 3), sp("a", 4, 6)}, nil, api.Lines{sp("a", 1, 3)}, api.Lines{sp("a", 4, 6)}},
		{api.Lines{sp("a", 1, 3)}, api.Lines{sp("a", 3, 6)}, api.Lines{sp("a", 1, 6)}, nil, api.Lines{sp("a", 1, 3)}, api.Lines{sp("a", 3, 6)}},
		{api.Lines{sp("a", 1, 4)}, api.Lines{sp("a", 3, 6)}, api.Lines{sp("a", 1, 6)}, api.Lines{sp("a", 3, 4)}, api.Lines{sp("a", 1, 3)}, api.Lines{sp("a", 4, 6)}},
		{api.Lines{sp("a", 1, 9)}, api.Lines{sp("a", 3, 6)}, api.Lines{sp("a", 1, 9)}, api.Lines{sp("a", 3, 6)}, api.Lines{sp("a", 1, 3), sp("a", 6, 9)}, nil},
		{api.Lines{sp("a", 1, 9)}, api.Lines{sp("a", 1, 6)}, api.Lines{sp("a", 1, 9)}, api.Lines{sp("a", 1, 6)}, api.Lines{sp("a", 6, 9)}, nil},
		{api.Lines{sp("a", 1, 9)}, api.Lines{sp("a", 3, 9)}, api.Lines{sp("a", 1, 9)}, api.Lines{sp("a", 3, 9)}, api.Lines{sp("a", 1, 3)}, nil},
		// a gap that is filled, and several spans within one
		{api.Lines{sp("a", 1, 3), sp("a", 5, 7)}, api.Lines{sp("a", 3, 5)}, api.Lines{sp("a", 1, 7)}, nil, api.Lines{sp("a", 1, 3), sp("a", 5, 7)}, api.Lines{sp("a", 3, 5)}},
		{api.Lines{sp("a", 1, 3), sp("a", 5, 7)}, api.Lines{sp("a", 0, 9)}, api.Lines{sp("a", 0, 9)}, api.Lines{sp("a", 1, 3), sp("a", 5, 7)}, nil, api.Lines{sp("a", 0, 1), sp("a", 3, 5), sp("a", 7, 9)}},
		// several paths
		{api.Lines{sp("a", 1, 3)}, api.Lines{sp("b", 1, 3)}, api.Lines{sp("a", 1, 3), sp("b", 1, 3)}, nil, api.Lines{sp("a", 1, 3)}, api.Lines{sp("b", 1, 3)}},
		{api.Lines{sp("b", 1, 3)}, api.Lines{sp("a", 3, 4)}, api.Lines{sp("a", 3, 4), sp("b", 1, 3)}, nil, api.Lines{sp("b", 1, 3)}, api.Lines{sp("a", 3, 4)}},
		{api.Lines{sp("a", 0, 2), sp("c", 1, 3)}, api.Lines{sp("b", 2, 3), sp("c", 2, 5)}, api.Lines{sp("a", 0, 2), sp("b", 2, 3), sp("c", 1, 5)}, api.Lines{sp("c", 2, 3)}, api.Lines{sp("a", 0, 2), sp("c", 1, 2)}, api.Lines{sp("b", 2, 3), sp("c", 3, 5)}},
		{api.Lines{sp("a/x", 1, 4), sp("a/y", 0, 1)}, api.Lines{sp("a/x", 2, 3)}, api.Lines{sp("a/x", 1, 4), sp("a/y", 0, 1)}, api.Lines{sp("a/x", 2, 3)}, api.Lines{sp("a/x", 1, 2), sp("a/x", 3, 4), sp("a/y", 0, 1)}, nil},
	} {
		for j, y := range []struct {
			do         operation
			a, b, want api.Lines
		}{
			{Union, x.a, x.b, x.union}, {Union, x.b, x.a, x.union},
			{Meet, x.a, x.b, x.meet}, {Meet, x.b, x.a, x.meet},
			{Minus, x.a, x.b, x.minus}, {Minus, x.b, x.a, x.reverse},
		} {
			if l, e := y.do(y.a, y.b); e != api.OK || !slices.Equal(l, y.want) {
				t.Error(i, j, l, e)
			}
		}
	}
}

// P16.3: a set that is not valid, on the left, on the right, and on both sides.
func TestOperationsErrors(t *testing.T) {
	good := api.Lines{sp("a", 1, 2)}
	for i, bad := range invalidSets() {
		for j, do := range []operation{Union, Meet, Minus} {
			for k, x := range [][2]api.Lines{{bad, good}, {good, bad}, {bad, bad}, {bad, nil}, {nil, bad}} {
				if l, e := do(x[0], x[1]); e != api.ErrArg || l != nil {
					t.Error(i, j, k, l, e)
				}
			}
		}
	}
}

// P16.3: the lines of files below a directory.
func TestUnder(t *testing.T) {
	set := api.Lines{sp("a", 0, 1), sp("a-b/x", 0, 1), sp("a/b", 1, 2), sp("a/b", 3, 4), sp("a/b/c", 1, 2), sp("a/bc", 5, 6), sp("a0", 0, 1), sp("b/a/x", 0, 1)}
	for _, x := range []struct {
		dir  string
		want api.Lines
	}{
		{"a", set[2:6]},
		{"a/b", set[4:5]},
		{"a/b/c", nil},
		{"a-b", set[1:2]},
		{"a-", nil},
		{"a/b/", nil},
		{"b", set[7:]},
		{"b/a", set[7:]},
		{"c", nil},
		{"0", nil},
		{"x", nil},
	} {
		want := api.OK
		if x.dir == "a/b/" {
			want = api.ErrName
		}
		if l, e := Under(set, x.dir); e != want || !slices.Equal(l, x.want) {
			t.Error(x.dir, l, e)
		}
	}
	example := api.Lines{sp("a/x", 1, 4), sp("a/y", 0, 1)}
	if l, e := Under(example, "a"); e != api.OK || !slices.Equal(l, example) {
		t.Error(l, e)
	}
	if l, e := Under(example, "a/x"); e != api.OK || l != nil {
		t.Error(l, e)
	}
	if l, e := Under(nil, "a"); e != api.OK || l != nil {
		t.Error(l, e)
	}
}

// P16.3: the set decides before the directory.
func TestUnderErrors(t *testing.T) {
	for _, dir := range []string{"", "/", "a/", "/a", "A", "a b", ".", "a//b", longPath() + "q"} {
		if l, e := Under(api.Lines{sp("a/b", 1, 2)}, dir); e != api.ErrName || l != nil {
			t.Error(dir, l, e)
		}
		if l, e := Under(nil, dir); e != api.ErrName || l != nil {
			t.Error(dir, l, e)
		}
	}
	for i, bad := range invalidSets() {
		for _, dir := range []string{"a", "", "A"} {
			if l, e := Under(bad, dir); e != api.ErrArg || l != nil {
				t.Error(i, dir, l, e)
			}
		}
	}
}
