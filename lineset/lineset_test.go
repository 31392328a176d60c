package lineset

import (
	"math"
	"slices"
	"strings"
	"testing"

	"licit/api"
)

// sp returns a span.
func sp(path string, from, to int) api.Span { return api.Span{Path: path, From: from, To: to} }

// at returns a line.
func at(path string, n int) api.Line { return api.Line{Path: path, N: n} }

// longPath is a path of MaxPath bytes, in parts of MaxName bytes and fewer.
func longPath() string {
	part := strings.Repeat("p", api.MaxName)
	return part + "/" + part + "/" + part + "/" + strings.Repeat("q", api.MaxPath-3*(api.MaxName+1))
}

// validSets returns sets that are valid.
func validSets() []api.Lines {
	return []api.Lines{
		nil,
		{},
		{sp("a", 0, 1)},
		{sp("a", 0, api.MaxLines)},
		{sp("a", api.MaxLines-1, api.MaxLines)},
		{sp("a", 0, 1), sp("a", 2, 3)},
		{sp("a", 0, 1), sp("a", api.MaxLines-1, api.MaxLines)},
		{sp("a/x", 1, 4), sp("a/y", 0, 1)},
		// one path is the beginning of the other one, and - comes before the slash
		{sp("a", 5, 6), sp("a-b", 0, 2), sp("a/x", 0, 2), sp("a0", 0, 2)},
		{sp("a", 3, 4), sp("b", 3, 4), sp("c", 0, 4)},
		{sp(longPath(), 1, 2)},
		{sp("a/b/c/d/e/f/g/h", 1, 2)},
	}
}

// invalidSets returns sets that break one of the conditions, as the first span or behind others.
func invalidSets() []api.Lines {
	sets := []api.Lines{
		{sp("", 0, 1)},
		{sp("A", 0, 1)},
		{sp("a/", 0, 1)},
		{sp("/a", 0, 1)},
		{sp("a//b", 0, 1)},
		{sp("a b", 0, 1)},
		{sp(longPath()+"q", 0, 1)},
		{sp("a/b/c/d/e/f/g/h/i", 0, 1)},
		{sp("a", -1, 1)},
		{sp("a", -2, -1)},
		{sp("a", 0, 0)},
		{sp("a", 3, 2)},
		{sp("a", 0, api.MaxLines+1)},
		{sp("a", api.MaxLines, api.MaxLines)},
		{sp("a", api.MaxLines, api.MaxLines+1)},
		{sp("a", math.MinInt, math.MaxInt)},
		{sp("a", 1, 2), sp("a", 2, 3)},
		{sp("a", 1, 3), sp("a", 2, 4)},
		{sp("a", 1, 9), sp("a", 2, 3)},
		{sp("a", 1, 2), sp("a", 1, 2)},
		{sp("a", 3, 4), sp("a", 1, 2)},
		{sp("b", 1, 2), sp("a", 1, 2)},
		{sp("a/b", 1, 2), sp("a-b", 1, 2)},
		{sp("a", 1, 2), sp("b", 1, 2), sp("a", 5, 6)},
		{sp("a", 1, 2), sp("B", 1, 2)},
		{sp("a", 1, 2), sp("a", 4, 4)},
	}
	for _, l := range sets[:16] {
		sets = append(sets, append(api.Lines{sp("0", 0, 1)}, l...), append(l[:1:1], sp("z", 0, 1)))
	}
	return sets
}

// P16.1: valid sets, and those that break one condition.
func TestValid(t *testing.T) {
	for i, l := range validSets() {
		if !Valid(l) {
			t.Error(i, l)
		}
	}
	for i, l := range invalidSets() {
		if Valid(l) {
			t.Error(i, l)
		}
	}
}

// P16.1: the lines of a set in order, how many there are, and which ones.
func TestLines(t *testing.T) {
	for i, x := range []struct {
		set    api.Lines
		lines  []api.Line
		absent []api.Line
	}{
		{nil, nil, []api.Line{at("a", 0), at("", 0), at("", -1)}},
		{
			api.Lines{sp("a/x", 1, 4), sp("a/y", 0, 1)},
			[]api.Line{at("a/x", 1), at("a/x", 2), at("a/x", 3), at("a/y", 0)},
			[]api.Line{at("a/x", 0), at("a/x", 4), at("a/y", 1), at("a/y", -1), at("a", 1), at("a/x/1", 1), at("a/z", 0)},
		},
		{
			api.Lines{sp("b", 0, 1), sp("b", 2, 4), sp("b", 1023, 1024)},
			[]api.Line{at("b", 0), at("b", 2), at("b", 3), at("b", 1023)},
			[]api.Line{at("b", 1), at("b", 4), at("b", 1022), at("b", 1024), at("b", math.MaxInt), at("b", math.MinInt), at("a", 0), at("c", 0)},
		},
	} {
		if l := List(x.set); !slices.Equal(l, x.lines) {
			t.Error(i, l)
		}
		if n := Count(x.set); n != len(x.lines) {
			t.Error(i, n)
		}
		for _, l := range x.lines {
			if !Has(x.set, l) {
				t.Error(i, l)
			}
		}
		for _, l := range x.absent {
			if Has(x.set, l) {
				t.Error(i, l)
			}
		}
	}
	if n := Count(api.Lines{sp("a", 0, api.MaxLines), sp("b", 0, api.MaxLines)}); n != 2*api.MaxLines {
		t.Error(n)
	}
}

// P16.1: sets that are not valid have no lines.
func TestLinesOfInvalidSets(t *testing.T) {
	for i, l := range invalidSets() {
		if lines, n := List(l), Count(l); lines != nil || n != 0 {
			t.Error(i, l, lines, n)
		}
		for _, s := range l {
			if Has(l, at(s.Path, s.From)) {
				t.Error(i, l, s)
			}
		}
	}
}

// P16.2: lines in any order, several times, of several paths, and the first and the last one of a file.
func TestOf(t *testing.T) {
	for i, x := range []struct {
		lines []api.Line
		want  api.Lines
	}{
		{nil, nil},
		{[]api.Line{}, nil},
		{[]api.Line{at("a/x", 3), at("a/x", 1), at("a/x", 2), at("a/y", 0)}, api.Lines{sp("a/x", 1, 4), sp("a/y", 0, 1)}},
		{[]api.Line{at("a", 7), at("a", 7), at("a", 7)}, api.Lines{sp("a", 7, 8)}},
		{[]api.Line{at("a", 2), at("a", 0), at("a", 2), at("a", 0)}, api.Lines{sp("a", 0, 1), sp("a", 2, 3)}},
		{[]api.Line{at("a", api.MaxLines-1), at("a", 0)}, api.Lines{sp("a", 0, 1), sp("a", api.MaxLines-1, api.MaxLines)}},
		{[]api.Line{at("a", api.MaxLines-1), at("a", api.MaxLines-2)}, api.Lines{sp("a", api.MaxLines-2, api.MaxLines)}},
		{[]api.Line{at("a/b", 1), at("a0", 1), at("a-b", 1), at("a", 1)}, api.Lines{sp("a", 1, 2), sp("a-b", 1, 2), sp("a/b", 1, 2), sp("a0", 1, 2)}},
		{[]api.Line{at("b", 0), at("a", 1), at("b", 2), at("a", 0), at("b", 1)}, api.Lines{sp("a", 0, 2), sp("b", 0, 3)}},
		// the lines of two files do not touch
		{[]api.Line{at("a", 1), at("b", 2)}, api.Lines{sp("a", 1, 2), sp("b", 2, 3)}},
	} {
		before := slices.Clone(x.lines)
		if l, e := Of(x.lines); e != api.OK || !slices.Equal(l, x.want) || !slices.Equal(x.lines, before) {
			t.Error(i, l, e, x.lines)
		}
	}
}

// P16.2: the first line that is not valid decides.
func TestOfErrors(t *testing.T) {
	for i, x := range []struct {
		lines []api.Line
		e     api.Errno
	}{
		{[]api.Line{at("", 0)}, api.ErrName},
		{[]api.Line{at("A", 0)}, api.ErrName},
		{[]api.Line{at("a/", -1)}, api.ErrName},
		{[]api.Line{at(longPath()+"q", api.MaxLines)}, api.ErrName},
		{[]api.Line{at("a", -1)}, api.ErrRange},
		{[]api.Line{at("a", api.MaxLines)}, api.ErrRange},
		{[]api.Line{at("a", math.MaxInt)}, api.ErrRange},
		{[]api.Line{at("a", math.MinInt)}, api.ErrRange},
		{[]api.Line{at("a", 0), at("b", 1), at("B", 1)}, api.ErrName},
		{[]api.Line{at("a", -1), at("B", 1)}, api.ErrRange},
		{[]api.Line{at("B", 1), at("a", -1)}, api.ErrName},
	} {
		if l, e := Of(x.lines); e != x.e || l != nil {
			t.Error(i, l, e)
		}
	}
}

// P16.1 to P16.4: results share no memory with arguments.
func TestNewMemory(t *testing.T) {
	set := func() api.Lines { return api.Lines{sp("a/x", 1, 4), sp("a/x", 6, 8), sp("a/y", 0, 1)} }
	a, b := set(), set()
	union, _ := Union(a, b)
	half, _ := Union(a, nil)
	other, _ := Union(nil, a)
	meet, _ := Meet(a, b)
	minus, _ := Minus(a, nil)
	under, _ := Under(a, "a")
	for i, l := range []api.Lines{union, half, other, meet, minus, under} {
		if !slices.Equal(l, set()) {
			t.Error(i, l)
		}
		l = append(l, sp("z", 0, 1))
		for j := range l {
			l[j] = api.Span{}
		}
	}
	for _, l := range []api.Lines{union, half, other, meet, minus, under} {
		clear(l)
	}
	if !slices.Equal(a, set()) || !slices.Equal(b, set()) {
		t.Error(a, b)
	}
}
