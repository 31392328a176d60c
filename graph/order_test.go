package graph

import (
	"slices"
	"testing"

	"licit/api"
)

// P18.3: the order of nodes, and how deep they are.
func TestOrder(t *testing.T) {
	for i, x := range []struct {
		g             api.Graph
		order, depths []int
	}{
		{api.Graph{}, nil, nil},
		{example(), []int{0, 1, 2, 3}, []int{0, 1, 1, 2}},
		{named("abc"), []int{0, 1, 2}, []int{0, 0, 0}},
		{named("ab", edge(1, 0, 0)), []int{1, 0}, []int{1, 0}},
		{named("ab", edge(1, 0, 0), edge(1, 0, 3)), []int{1, 0}, []int{1, 0}},
		{named("abc", edge(1, 0, 0), edge(2, 1, 0)), []int{2, 1, 0}, []int{2, 1, 0}},
		{named("abc", edge(2, 0, 0)), []int{1, 2, 0}, []int{1, 0, 0}},
		// the least one that may be taken, and not the one that was set free first
		{named("abcde", edge(1, 0, 0), edge(1, 3, 0), edge(2, 3, 0), edge(4, 2, 0)), []int{1, 0, 4, 2, 3}, []int{1, 0, 1, 2, 0}},
		{named("abcd", edge(1, 0, 0), edge(2, 0, 0), edge(3, 2, 0)), []int{1, 3, 2, 0}, []int{2, 0, 1, 0}},
		// the longest chain, beside shorter ones
		{named("abcd", edge(0, 1, 0), edge(0, 3, 0), edge(1, 2, 0), edge(2, 3, 0)), []int{0, 1, 2, 3}, []int{0, 1, 2, 3}},
		{named("abcd", edge(0, 1, 0), edge(0, 2, 0), edge(0, 3, 0), edge(3, 1, 0)), []int{0, 2, 3, 1}, []int{0, 2, 1, 1}},
	} {
		before := copyOf(x.g)
		if l, e := Order(x.g); e != api.OK || !slices.Equal(l, x.order) {
			t.Error(i, l, e)
		}
		if l, e := Depths(x.g); e != api.OK || !slices.Equal(l, x.depths) {
			t.Error(i, l, e)
		}
		if !isEqual(x.g, before) {
			t.Error(i, x.g)
		}
	}
}

// P18.3: circles of one node, of two, and longer ones, alone and beside other nodes.
func TestLoops(t *testing.T) {
	closed := line(api.MaxList)
	closed.Edges = append(closed.Edges, edge(api.MaxList-1, 0, 0))
	for i, g := range []api.Graph{
		named("a", edge(0, 0, 0)),
		named("ab", edge(1, 1, 0)),
		named("ab", edge(0, 1, 0), edge(1, 1, 0)),
		named("ab", edge(0, 1, 0), edge(1, 0, 0)),
		named("abc", edge(0, 1, 0), edge(1, 2, 0), edge(2, 1, 0)),
		named("abcd", edge(1, 2, 0), edge(2, 3, 0), edge(3, 1, 0)),
		circle(),
		closed,
	} {
		if l, e := Order(g); e != api.ErrLoop || l != nil {
			t.Error(i, l, e)
		}
		if l, e := Depths(g); e != api.ErrLoop || l != nil {
			t.Error(i, l, e)
		}
	}
}

// P18.3: graphs at the limits.
func TestOrderAtLimits(t *testing.T) {
	for _, g := range []api.Graph{line(api.MaxList), parallel(api.MaxList), {Nodes: line(api.MaxList).Nodes}} {
		order, e := Order(g)
		depths, f := Depths(g)
		if e != api.OK || f != api.OK || len(order) != len(g.Nodes) || !slices.IsSorted(order) || len(depths) != len(g.Nodes) || !slices.IsSorted(depths) {
			t.Error(order, e, f)
		}
		if last := len(depths) - 1; depths[last] != min(len(g.Edges), last) {
			t.Error(depths[last])
		}
	}
}
