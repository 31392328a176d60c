package graph

import (
	"math"
	"slices"
	"testing"

	"licit/api"
)

// circle returns a graph in which a leads into a circle of b, c and d, which leads to e; f is alone, and g leads to itself.
func circle() api.Graph {
	return named("abcdefg", edge(0, 1, 0), edge(1, 2, 0), edge(2, 3, 0), edge(3, 1, 0), edge(3, 4, 0), edge(6, 6, 0))
}

// P18.2: the nodes that nodes reach, and that reach them.
func TestReach(t *testing.T) {
	for i, x := range []struct {
		g           api.Graph
		node        int
		reach, back []int
	}{
		{example(), 0, []int{1, 2, 3}, nil},
		{example(), 1, []int{3}, []int{0}},
		{example(), 2, []int{3}, []int{0}},
		{example(), 3, nil, []int{0, 1, 2}},
		{circle(), 0, []int{1, 2, 3, 4}, nil},
		{circle(), 1, []int{1, 2, 3, 4}, []int{0, 1, 2, 3}},
		{circle(), 2, []int{1, 2, 3, 4}, []int{0, 1, 2, 3}},
		{circle(), 3, []int{1, 2, 3, 4}, []int{0, 1, 2, 3}},
		{circle(), 4, nil, []int{0, 1, 2, 3}},
		{circle(), 5, nil, nil},
		{circle(), 6, []int{6}, []int{6}},
		{named("ab", edge(1, 0, 0), edge(1, 0, 7)), 0, nil, []int{1}},
		{named("ab", edge(1, 0, 0), edge(1, 0, 7)), 1, []int{0}, nil},
		{named("ab", edge(0, 1, 0), edge(1, 0, 0)), 0, []int{0, 1}, []int{0, 1}},
		{named("abc", edge(0, 0, 0), edge(0, 2, 0)), 0, []int{0, 2}, []int{0}},
		{named("abc", edge(0, 0, 0), edge(0, 2, 0)), 2, nil, []int{0}},
		{named("a"), 0, nil, nil},
		// no nodes
		{example(), -1, nil, nil},
		{example(), 4, nil, nil},
		{example(), math.MaxInt, nil, nil},
		{example(), math.MinInt, nil, nil},
		{api.Graph{}, 0, nil, nil},
		{api.Graph{}, -1, nil, nil},
	} {
		before := copyOf(x.g)
		if l := Reach(x.g, x.node); !slices.Equal(l, x.reach) {
			t.Error(i, l)
		}
		if l := Back(x.g, x.node); !slices.Equal(l, x.back) {
			t.Error(i, l)
		}
		if !isEqual(x.g, before) {
			t.Error(i, x.g)
		}
	}
}

// P18.4: least chains, and the gates between their ends.
func TestChain(t *testing.T) {
	for i, x := range []struct {
		g        api.Graph
		from, to int
		chain    []int
		found    bool
		gates    []int
	}{
		{example(), 0, 3, []int{0, 2}, true, []int{0, 3}},
		{example(), 0, 1, []int{0}, true, []int{0, 1}},
		{example(), 0, 2, []int{1}, true, []int{0, 2}},
		{example(), 1, 2, nil, false, nil},
		{example(), 3, 0, nil, false, nil},
		// the empty chain, also where others lead back
		{example(), 2, 2, nil, true, []int{2}},
		{circle(), 1, 1, nil, true, []int{1}},
		{circle(), 6, 6, nil, true, []int{6}},
		{circle(), 5, 5, nil, true, []int{5}},
		{circle(), 0, 4, []int{0, 1, 2, 4}, true, []int{0, 1, 2, 3, 4}},
		{circle(), 3, 2, []int{3, 1}, true, []int{1, 2, 3}},
		{circle(), 4, 0, nil, false, nil},
		{circle(), 0, 5, nil, false, nil},
		{circle(), 5, 6, nil, false, nil},
		// a longer chain with lesser indices: a b c d, and a d
		{named("abcd", edge(0, 1, 0), edge(0, 3, 0), edge(1, 2, 0), edge(2, 3, 0)), 0, 3, []int{1}, true, []int{0, 3}},
		// chains of equal length: the first edge decides, then the second one
		{named("abcde", edge(0, 1, 0), edge(0, 2, 0), edge(1, 3, 0), edge(2, 3, 0), edge(2, 3, 1), edge(3, 4, 0)), 0, 4, []int{0, 2, 5}, true, []int{0, 3, 4}},
		{named("abcd", edge(0, 1, 5), edge(0, 2, 4), edge(1, 3, 3), edge(2, 3, 2)), 0, 3, []int{0, 2}, true, []int{0, 3}},
		{named("abcd", edge(3, 1, 0), edge(3, 2, 0), edge(1, 0, 0), edge(2, 0, 0)), 3, 0, nil, false, nil},
		{named("abcd", edge(1, 0, 0), edge(2, 0, 0), edge(3, 1, 0), edge(3, 2, 0)), 3, 0, []int{2, 0}, true, []int{0, 3}},
		// a beginning with lesser indices that leads nowhere, and one that is a detour
		{named("abcd", edge(0, 1, 0), edge(0, 2, 0), edge(2, 3, 0)), 0, 3, []int{1, 2}, true, []int{0, 2, 3}},
		{named("abcd", edge(0, 1, 0), edge(0, 2, 0), edge(1, 2, 0), edge(2, 3, 0)), 0, 3, []int{1, 3}, true, []int{0, 2, 3}},
		// two edges between the same nodes, and loops on the way and at the ends
		{named("ab", edge(0, 1, 3), edge(0, 1, 8)), 0, 1, []int{0}, true, []int{0, 1}},
		{named("abc", edge(0, 0, 0), edge(0, 1, 0), edge(1, 1, 0), edge(1, 2, 0), edge(2, 2, 0)), 0, 2, []int{1, 3}, true, []int{0, 1, 2}},
		// a gate behind two ways, and one beside which there is a detour that leads back
		{named("abcdef", edge(0, 1, 0), edge(0, 2, 0), edge(1, 3, 0), edge(2, 3, 0), edge(3, 4, 0), edge(3, 5, 0), edge(4, 3, 0)), 0, 5, []int{0, 2, 5}, true, []int{0, 3, 5}},
		// no nodes
		{example(), -1, 0, nil, false, nil},
		{example(), 0, -1, nil, false, nil},
		{example(), -1, -1, nil, false, nil},
		{example(), 4, 4, nil, false, nil},
		{example(), 0, 4, nil, false, nil},
		{example(), 4, 0, nil, false, nil},
		{example(), math.MaxInt, math.MinInt, nil, false, nil},
		{api.Graph{}, 0, 0, nil, false, nil},
	} {
		before := copyOf(x.g)
		if l, found := Chain(x.g, x.from, x.to); !slices.Equal(l, x.chain) || found != x.found {
			t.Error(i, l, found)
		}
		if l := Gates(x.g, x.from, x.to); !slices.Equal(l, x.gates) {
			t.Error(i, l)
		}
		if !isEqual(x.g, before) {
			t.Error(i, x.g)
		}
	}
}

// P18.2, P18.4: graphs at the limits.
func TestWalkAtLimits(t *testing.T) {
	last := api.MaxList - 1
	g := line(api.MaxList)
	if l := Reach(g, 0); len(l) != last || l[0] != 1 || l[last-1] != last {
		t.Error(len(l))
	}
	if l := Back(g, last); len(l) != last || l[0] != 0 || l[last-1] != last-1 {
		t.Error(len(l))
	}
	if l, found := Chain(g, 0, last); !found || len(l) != last || !slices.IsSorted(l) {
		t.Error(len(l), found)
	}
	if l := Gates(g, 0, last); len(l) != api.MaxList || !slices.IsSorted(l) {
		t.Error(len(l))
	}
	// the last edge closes the circle
	g.Edges = append(g.Edges, edge(last, 0, 0))
	if l, found := Chain(g, last, last-1); !found || len(l) != last || l[0] != last {
		t.Error(len(l), found)
	}
	if l := Reach(g, 5); len(l) != api.MaxList {
		t.Error(len(l))
	}
	if l, found := Chain(parallel(api.MaxList), 0, 1); !found || !slices.Equal(l, []int{0}) {
		t.Error(l, found)
	}
}
