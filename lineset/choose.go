package lineset

import (
	"cmp"
	"slices"
	"strings"

	"licit/api"
	"licit/tree"
)

// edge is where a span of one of two sets begins (enters is 1), or ends (-1).
type edge struct {
	path         string
	n            int
	side, enters int
}

// edges returns the edges of the spans of one of two sets.
func edges(l api.Lines, side int) []edge {
	var list []edge
	for _, s := range l {
		list = append(list, edge{s.Path, s.From, side, 1}, edge{s.Path, s.To, side, -1})
	}
	return list
}

// choose returns the set of the lines that a function chooses, which is told whether a line is in the first and in the second one of two lists of spans. It never chooses a line that is in none of them. The spans of a list may overlap, and have any order.
func choose(a, b api.Lines, chosen func(inA, inB bool) bool) api.Lines {
	list := append(edges(a, 0), edges(b, 1)...)
	slices.SortFunc(list, func(x, y edge) int {
		return cmp.Or(strings.Compare(x.path, y.path), cmp.Compare(x.n, y.n))
	})
	var open [2]int
	var l api.Lines
	for i := range len(list) {
		x := list[i]
		open[x.side] += x.enters
		// behind the last edge of a path no span is open, so that one of the same path follows if the lines are chosen
		if chosen(open[0] > 0, open[1] > 0) {
			l = extend(l, api.Span{Path: x.path, From: x.n, To: list[i+1].n})
		}
	}
	return l
}

// extend adds a span, which may be empty, behind those of a set, or to the last one of them if it touches it.
func extend(l api.Lines, s api.Span) api.Lines {
	last := len(l) - 1
	switch {
	case s.From == s.To:
		return l
	case last >= 0 && l[last].Path == s.Path && l[last].To == s.From:
		l[last].To = s.To
		return l
	}
	return append(l, s)
}

// chooseValid chooses lines of two sets: ErrArg, if one of them is not valid.
func chooseValid(a, b api.Lines, chosen func(inA, inB bool) bool) (api.Lines, api.Errno) {
	if !Valid(a) || !Valid(b) {
		return nil, api.ErrArg
	}
	return choose(a, b, chosen), api.OK
}

// Union returns the lines that are in one of two sets: ErrArg, if one of them is not valid.
func Union(a, b api.Lines) (api.Lines, api.Errno) {
	return chooseValid(a, b, func(inA, inB bool) bool { return inA || inB })
}

// Meet returns the lines that are in both sets: ErrArg, if one of them is not valid.
func Meet(a, b api.Lines) (api.Lines, api.Errno) {
	return chooseValid(a, b, func(inA, inB bool) bool { return inA && inB })
}

// Minus returns the lines of a that are not in b: ErrArg, if one of them is not valid.
func Minus(a, b api.Lines) (api.Lines, api.Errno) {
	return chooseValid(a, b, func(inA, inB bool) bool { return inA && !inB })
}

// Under returns the lines of files below a directory: ErrArg, if the set is not valid; ErrName, if the directory is no path.
func Under(l api.Lines, dir string) (api.Lines, api.Errno) {
	if !Valid(l) {
		return nil, api.ErrArg
	}
	if tree.Path(dir) != api.OK {
		return nil, api.ErrName
	}
	var below api.Lines
	for _, s := range l {
		if strings.HasPrefix(s.Path, dir+"/") {
			below = append(below, s)
		}
	}
	return below, api.OK
}
