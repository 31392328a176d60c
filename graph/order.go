package graph

import (
	"slices"

	"licit/api"
)

// Order returns the nodes such that each one stands behind those from which edges lead to it, the least ones first: ErrArg, if the graph is not valid; ErrLoop, if a node reaches itself.
func Order(g api.Graph) ([]int, api.Errno) {
	if Check(g) != api.OK {
		return nil, api.ErrArg
	}
	next := ways(g, forward)
	// how many edges lead to each node from nodes that were not taken; -1 for a node that was taken itself
	waits := make([]int, len(g.Nodes))
	for _, x := range g.Edges {
		waits[x.To]++
	}
	var order []int
	for range len(g.Nodes) {
		n := slices.Index(waits, 0)
		if n < 0 {
			return nil, api.ErrLoop
		}
		waits[n] = -1
		order = append(order, n)
		for _, m := range next[n] {
			waits[m]--
		}
	}
	return order, api.OK
}

// Depths returns the lengths of the longest chains that end at the nodes: ErrArg, if the graph is not valid; ErrLoop, if a node reaches itself.
func Depths(g api.Graph) ([]int, api.Errno) {
	order, e := Order(g)
	if e != api.OK {
		return nil, e
	}
	next := ways(g, forward)
	depths := make([]int, len(g.Nodes))
	for _, n := range order {
		for _, m := range next[n] {
			depths[m] = max(depths[m], depths[n]+1)
		}
	}
	return depths, api.OK
}
