package align

import (
	"math"
	"slices"
	"testing"

	"licit/api"
)

// P28.1 to P28.3: the example of the chapter.
func TestExample(t *testing.T) {
	a, b, c := letters("abc"), letters("acd"), costs(3, 2, 2)
	x, e := Align(a, b, c)
	if e != api.OK || !isAlignment(x, api.Alignment{Cost: 4, Steps: []int{1, 3, 1, 4}}) || Check(a, b, c, x) != api.OK {
		t.Error(x, e)
	}
	if kept := Kept(x); !slices.Equal(kept, [][2]int{{0, 0}, {2, 1}}) {
		t.Error(kept)
	}
	want := [][]int{{0, 2, 4, 6}, {2, 0, 2, 4}, {4, 2, 3, 5}, {6, 4, 2, 4}}
	p, e := Potential(a, b, c)
	if e != api.OK || !isTable(p, want) {
		t.Error(p, e)
	}
	d, e := Distance(a, b, c)
	bound, f := Bound(a, b, c, want)
	if e != api.OK || f != api.OK || d != 4 || bound != 4 {
		t.Error(d, e, bound, f)
	}
}

// P28.1: best alignments.
func TestAlign(t *testing.T) {
	for _, x := range []struct {
		a, b  []api.Lexeme
		c     api.Costs
		cost  int
		steps []int
	}{
		// without words
		{nil, nil, costs(1, 1, 1), 0, nil}, {[]api.Lexeme{}, nil, costs(1000, 1000, 1000), 0, nil},
		{letters("ab"), nil, costs(9, 3, 5), 6, []int{drop, drop}}, {nil, letters("abc"), costs(9, 3, 5), 15, []int{add, add, add}},
		// equal ones
		{letters("abca"), letters("abca"), costs(1, 1, 1), 0, []int{keep, keep, keep, keep}}, {letters("aaa"), letters("aaa"), costs(1000, 1, 1), 0, []int{keep, keep, keep}},
		// without a common word: a change costs less than dropping and adding, as much, more
		{letters("ab"), letters("xy"), costs(3, 2, 2), 6, []int{change, change}}, {letters("ab"), letters("xy"), costs(4, 2, 2), 8, []int{change, change}}, {letters("ab"), letters("xy"), costs(5, 2, 2), 8, []int{drop, drop, add, add}},
		{letters("a"), letters("x"), costs(1000, 999, 1), 1000, []int{change}}, {letters("a"), letters("x"), costs(1000, 1, 998), 999, []int{drop, add}}, {letters("a"), letters("x"), costs(1000, 1000, 1000), 1000, []int{change}},
		{letters("abc"), letters("x"), costs(2, 2, 2), 6, []int{change, drop, drop}}, {letters("a"), letters("xyz"), costs(2, 2, 2), 6, []int{change, add, add}},
		// several best ones: keeping comes first, then changing, dropping, adding
		{letters("a"), letters("aa"), costs(1, 1, 1), 1, []int{keep, add}}, {letters("aa"), letters("a"), costs(1, 1, 1), 1, []int{keep, drop}}, {letters("aba"), letters("a"), costs(1, 1, 1), 2, []int{keep, drop, drop}},
		{letters("ab"), letters("ba"), costs(1, 1, 1), 2, []int{change, change}}, {letters("ab"), letters("ba"), costs(2, 1, 1), 2, []int{drop, keep, add}}, {letters("ab"), letters("ba"), costs(9, 2, 1), 3, []int{drop, keep, add}},
		{letters("ab"), letters("bab"), costs(1, 1, 1), 1, []int{add, keep, keep}}, {letters("abxb"), letters("ab"), costs(3, 1, 1), 2, []int{keep, keep, drop, drop}}, {letters("xab"), letters("yab"), costs(2, 1, 1), 2, []int{change, keep, keep}}, {letters("xab"), letters("yab"), costs(3, 1, 1), 2, []int{drop, add, keep, keep}},
		// a word is not kept, if keeping it costs more than it saves
		{letters("abcd"), letters("dabc"), costs(9, 1, 1), 2, []int{add, keep, keep, keep, drop}}, {letters("xa"), letters("aab"), costs(1, 5, 5), 6, []int{change, keep, add}}, {letters("axx"), letters("yya"), costs(1, 9, 9), 3, []int{change, change, change}},
		// the costs of dropping and adding are not exchanged
		{letters("aab"), letters("b"), costs(9, 3, 7), 6, []int{drop, drop, keep}}, {letters("b"), letters("aab"), costs(9, 3, 7), 14, []int{add, add, keep}},
		// the texts matter, and not the lines
		{[]api.Lexeme{{Text: "a", Line: 1}, {Text: "b", Line: -5}}, []api.Lexeme{{Text: "a", Line: 2}, {Text: "b", Line: 1 << 60}}, costs(1, 1, 1), 0, []int{keep, keep}}, {[]api.Lexeme{{Text: "a", Line: 1}}, []api.Lexeme{{Text: "b", Line: 1}}, costs(1, 1, 1), 1, []int{change}},
		{words("", "ab"), words("", "a", "b"), costs(1, 1, 1), 2, []int{keep, change, add}}, {words(""), nil, costs(1, 1, 1), 1, []int{drop}}, {words("a\x00"), words("a"), costs(3, 1, 1), 2, []int{drop, add}},
	} {
		got, e := Align(x.a, x.b, x.c)
		if e != api.OK || !isAlignment(got, api.Alignment{Cost: x.cost, Steps: x.steps}) || Check(x.a, x.b, x.c, got) != api.OK {
			t.Error(spell(x.a), "/", spell(x.b), x.c, got, e)
		}
		if d, e := Distance(x.a, x.b, x.c); e != api.OK || d != x.cost {
			t.Error(spell(x.a), "/", spell(x.b), x.c, d, e)
		}
	}
}

// P28.1 to P28.3: the least and the greatest costs.
func TestCosts(t *testing.T) {
	a, b := letters("ab"), letters("b")
	for _, c := range []api.Costs{costs(1, 1, 1), costs(1000, 1, 1), costs(1, 1000, 1), costs(1, 1, 1000), costs(1000, 1000, 1), costs(1000, 1000, 1000)} {
		x, e := Align(a, b, c)
		if e != api.OK || !isAlignment(x, api.Alignment{Cost: c.Drop, Steps: []int{drop, keep}}) || Check(a, b, c, x) != api.OK {
			t.Error(c, x, e)
		}
		p, e := Potential(a, b, c)
		d, f := Distance(a, b, c)
		bound, g := Bound(a, b, c, p)
		if e != api.OK || f != api.OK || g != api.OK || d != c.Drop || bound != d {
			t.Error(c, p, e, d, f, bound, g)
		}
	}
}

// checkFails checks that all functions that have errors return one, and nothing else.
func checkFails(t *testing.T, a, b []api.Lexeme, c api.Costs, want api.Errno) {
	t.Helper()
	if x, e := Align(a, b, c); e != want || x.Cost != 0 || x.Steps != nil {
		t.Error(len(a), len(b), c, x, e)
	}
	if d, e := Distance(a, b, c); e != want || d != 0 {
		t.Error(len(a), len(b), c, d, e)
	}
	if p, e := Potential(a, b, c); e != want || p != nil {
		t.Error(len(a), len(b), c, len(p), e)
	}
	for _, p := range [][][]int{nil, {{0}}, {{0, 1}, {1, 1}}} {
		if bound, e := Bound(a, b, c, p); e != want || bound != 0 {
			t.Error(len(a), len(b), c, p, bound, e)
		}
	}
	for _, x := range []api.Alignment{{}, {Cost: 1, Steps: []int{change}}, {Cost: -1, Steps: []int{0}}} {
		if e := Check(a, b, c, x); e != want {
			t.Error(len(a), len(b), c, x, e)
		}
	}
}

// P28.1 to P28.3: costs that are not valid come first, then too many words, then what is not right.
func TestErrors(t *testing.T) {
	long := many(api.MaxList+1, 7)
	for _, c := range badCosts() {
		for _, l := range [][2][]api.Lexeme{{nil, nil}, {letters("a"), letters("b")}, {long, nil}, {nil, long}, {long, long}} {
			checkFails(t, l[0], l[1], c, api.ErrRange)
		}
	}
	for _, c := range []api.Costs{costs(1, 1, 1), costs(1000, 1000, 1000), costs(3, 2, 2)} {
		for _, l := range [][2][]api.Lexeme{{long, nil}, {nil, long}, {long, long}, {long, letters("a")}, {letters("a"), many(5*api.MaxList, 1)}} {
			checkFails(t, l[0], l[1], c, api.ErrTooLarge)
		}
	}
}

// P28.1 to P28.3: lists of as many words as possible.
func TestLongLists(t *testing.T) {
	full := many(api.MaxList, api.MaxList)
	other := many(api.MaxList, 1000)
	strange := letters(string(slices.Repeat([]byte{'x'}, api.MaxList)))
	for i, x := range []struct {
		a, b []api.Lexeme
		c    api.Costs
		cost int
		kept int
	}{
		{full, full, costs(1, 1, 1), 0, 1024}, {full, other, costs(3, 2, 2), 24 * 3, 1000}, {other, full, costs(1000, 1, 2), 24 * 3, 1000}, {full, nil, costs(1, 1000, 1), 1024000, 0}, {nil, full, costs(1, 1, 1000), 1024000, 0},
		{full, strange, costs(1000, 1000, 1000), 1024000, 0}, {full, strange, costs(1000, 400, 500), 1024 * 900, 0}, {full[1:], full, costs(9, 7, 5), 5, 1023}, {full, full[:1023], costs(9, 7, 5), 7, 1023},
		{many(1024, 2), many(1024, 3), costs(1000, 1, 1), 2 * (1024 - 683), 683},
	} {
		got, e := Align(x.a, x.b, x.c)
		d, f := Distance(x.a, x.b, x.c)
		if e != api.OK || f != api.OK || got.Cost != x.cost || d != x.cost || len(Kept(got)) != x.kept || Check(x.a, x.b, x.c, got) != api.OK {
			t.Error(i, got.Cost, e, d, f, len(Kept(got)))
		}
		p, e := Potential(x.a, x.b, x.c)
		bound, f := Bound(x.a, x.b, x.c, p)
		if e != api.OK || f != api.OK || bound != x.cost || len(p) != len(x.a)+1 || len(p[0]) != len(x.b)+1 || p[0][len(x.b)] != len(x.b)*x.c.Add || p[len(x.a)][0] != len(x.a)*x.c.Drop {
			t.Error(i, len(p), e, bound, f)
		}
	}
}

// P28.2: steps and costs that are right.
func TestCheck(t *testing.T) {
	a, b, c := letters("abc"), letters("acd"), costs(3, 2, 7)
	for _, x := range []api.Alignment{
		{Cost: 9, Steps: []int{keep, drop, keep, add}}, {Cost: 6, Steps: []int{keep, change, change}}, {Cost: 27, Steps: []int{drop, drop, drop, add, add, add}}, {Cost: 27, Steps: []int{add, add, add, drop, drop, drop}},
		{Cost: 27, Steps: []int{add, drop, drop, add, add, drop}}, {Cost: 15, Steps: []int{add, change, change, drop}}, {Cost: 12, Steps: []int{drop, change, keep, add}}, {Cost: 18, Steps: []int{keep, drop, add, add, drop}},
	} {
		if e := Check(a, b, c, x); e != api.OK {
			t.Error(x, e)
		}
	}
	for _, l := range [][2][]api.Lexeme{{nil, nil}, {[]api.Lexeme{}, nil}} {
		for _, x := range []api.Alignment{{}, {Steps: []int{}}} {
			if e := Check(l[0], l[1], c, x); e != api.OK {
				t.Error(x, e)
			}
		}
	}
}

// P28.2: steps that are no alignment, and costs that are wrong.
func TestCheckFaults(t *testing.T) {
	a, b, c := letters("abc"), letters("acd"), costs(3, 2, 7)
	for _, x := range []api.Alignment{
		// none of the four steps
		{Cost: 9, Steps: []int{keep, 0, drop, keep, add}}, {Cost: 9, Steps: []int{keep, drop, keep, add, 0}}, {Cost: 9, Steps: []int{keep, drop, keep, add, 5}}, {Cost: 9, Steps: []int{-1, keep, drop, keep, add}}, {Cost: 9, Steps: []int{keep, drop, keep, 5}}, {Cost: 6, Steps: []int{keep, change, 5}}, {Cost: 6, Steps: []int{keep, change, math.MinInt}}, {Steps: []int{math.MaxInt}},
		// different words are kept, equal ones are changed
		{Cost: 3, Steps: []int{keep, keep, change}}, {Cost: 3, Steps: []int{keep, change, keep}}, {Cost: 0, Steps: []int{keep, keep, keep}}, {Cost: 9, Steps: []int{change, change, change}}, {Cost: 12, Steps: []int{keep, drop, change, add}}, {Cost: 12, Steps: []int{change, drop, keep, add}}, {Cost: 15, Steps: []int{drop, change, change, add}},
		// too many words of one list, or of both
		{Cost: 11, Steps: []int{keep, drop, keep, add, drop}}, {Cost: 16, Steps: []int{keep, drop, keep, add, add}}, {Cost: 9, Steps: []int{keep, drop, keep, add, keep}}, {Cost: 12, Steps: []int{keep, drop, keep, add, change}}, {Cost: 9, Steps: []int{keep, change, change, change}}, {Cost: 6, Steps: []int{keep, change, change, keep}}, {Cost: 9, Steps: []int{keep, drop, drop, change}}, {Cost: 21, Steps: []int{keep, add, add, change}},
		// too few
		{}, {Cost: 2, Steps: []int{keep, drop, keep}}, {Cost: 7, Steps: []int{keep, keep, add}}, {Cost: 3, Steps: []int{keep, change}}, {Cost: 6, Steps: []int{drop, drop, drop}}, {Cost: 21, Steps: []int{add, add, add}}, {Cost: 20, Steps: []int{drop, drop, add, add}}, {Cost: 25, Steps: []int{drop, drop, add, add, add}},
		// a wrong cost
		{Cost: 8, Steps: []int{keep, drop, keep, add}}, {Cost: 10, Steps: []int{keep, drop, keep, add}}, {Cost: 0, Steps: []int{keep, drop, keep, add}}, {Cost: -9, Steps: []int{keep, drop, keep, add}}, {Cost: 5, Steps: []int{keep, change, change}}, {Cost: 7, Steps: []int{keep, change, change}}, {Cost: 26, Steps: []int{drop, drop, drop, add, add, add}}, {Cost: 28, Steps: []int{drop, drop, drop, add, add, add}}, {Cost: math.MaxInt, Steps: []int{keep, change, change}},
	} {
		if e := Check(a, b, c, x); e != api.ErrProof {
			t.Error(x, e)
		}
	}
	for _, x := range []api.Alignment{{Cost: 1}, {Cost: -1}, {Steps: []int{0}}, {Steps: []int{keep}}, {Cost: 3, Steps: []int{change}}, {Cost: 2, Steps: []int{drop}}, {Cost: 7, Steps: []int{add}}} {
		if e := Check(nil, nil, c, x); e != api.ErrProof {
			t.Error(x, e)
		}
	}
	if e := Check(letters("a"), letters("a"), c, api.Alignment{Steps: make([]int, 1<<20)}); e != api.ErrProof {
		t.Error(e)
	}
}

// P28.2: what any steps keep.
func TestKept(t *testing.T) {
	for _, x := range []struct {
		steps []int
		want  [][2]int
	}{
		{nil, nil}, {[]int{}, nil}, {[]int{keep}, [][2]int{{0, 0}}}, {[]int{change, drop, add}, nil}, {[]int{keep, keep, keep}, [][2]int{{0, 0}, {1, 1}, {2, 2}}},
		{[]int{drop, keep, add, add, keep}, [][2]int{{1, 0}, {2, 3}}}, {[]int{add, keep, drop, drop, drop, keep, change, keep}, [][2]int{{0, 1}, {4, 2}, {6, 4}}}, {[]int{change, keep, change}, [][2]int{{1, 1}}},
		// a number that is no step, wherever it is
		{[]int{0}, nil}, {[]int{5}, nil}, {[]int{keep, 0}, nil}, {[]int{keep, keep, 5}, nil}, {[]int{-1, keep}, nil}, {[]int{keep, math.MaxInt, keep}, nil}, {[]int{keep, math.MinInt, keep}, nil},
	} {
		for _, cost := range []int{0, -1, 7, math.MaxInt} {
			if got := Kept(api.Alignment{Cost: cost, Steps: x.steps}); !slices.Equal(got, x.want) {
				t.Error(x.steps, got)
			}
		}
	}
	// steps of lists that would have too many words
	if got := Kept(api.Alignment{Steps: slices.Concat(slices.Repeat([]int{drop}, 5000), slices.Repeat([]int{add}, 7000), []int{keep})}); !slices.Equal(got, [][2]int{{5000, 7000}}) {
		t.Error(got)
	}
	if got := Kept(api.Alignment{Steps: slices.Repeat([]int{keep}, 5000)}); len(got) != 5000 || got[4999] != [2]int{4999, 4999} {
		t.Error(len(got))
	}
}
