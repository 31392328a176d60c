package graph

import (
	"slices"

	"licit/api"
)

// direction says from which node an edge is passed to which other one.
type direction func(x api.Edge) (from, to int)

// forward returns the ends of an edge.
func forward(x api.Edge) (from, to int) { return x.From, x.To }

// backward returns the ends of an edge as if it led the other way.
func backward(x api.Edge) (from, to int) { return x.To, x.From }

// ways returns for each node the nodes to which edges lead from it, in a direction.
func ways(g api.Graph, ends direction) [][]int {
	l := make([][]int, len(g.Nodes))
	for _, x := range g.Edges {
		from, to := ends(x)
		l[from] = append(l[from], to)
	}
	return l
}

// none is the index of no node.
const none = -1

// lengths returns for each node how many edges the shortest chain has that leads to it from one of some nodes, -1 if there is no chain. Chains through a closed node do not count.
func lengths(ways [][]int, starts []int, closed int) []int {
	l := make([]int, len(ways))
	for n := range len(ways) {
		l[n] = -1
	}
	var queue []int
	visit := func(n, length int) {
		if l[n] < 0 && n != closed {
			l[n] = length
			queue = append(queue, n)
		}
	}
	for _, n := range starts {
		visit(n, 0)
	}
	for len(queue) > 0 {
		n := queue[0]
		queue = queue[1:]
		for _, m := range ways[n] {
			visit(m, l[n]+1)
		}
	}
	return l
}

// Reach returns the nodes to which chains lead from a node, in order; nothing, if the graph is not valid, or there is no such node.
func Reach(g api.Graph, from int) []int { return behind(g, from, forward) }

// Back returns the nodes from which chains lead to a node, in order; nothing, if the graph is not valid, or there is no such node.
func Back(g api.Graph, to int) []int { return behind(g, to, backward) }

// behind returns the nodes to which chains that are not empty lead from a node, in a direction.
func behind(g api.Graph, node int, ends direction) []int {
	if Check(g) != api.OK || !isNode(g, node) {
		return nil
	}
	next := ways(g, ends)
	// what follows the first edge may be empty
	l := lengths(next, next[node], none)
	return choose(g, func(n int) bool { return l[n] >= 0 })
}

// choose returns the nodes that a function chooses, in order.
func choose(g api.Graph, chosen func(n int) bool) []int {
	var l []int
	for n := range len(g.Nodes) {
		if chosen(n) {
			l = append(l, n)
		}
	}
	return l
}

// Chain returns the edges of the least chain from one node to another one, and whether there is a chain; nothing, if the graph is not valid, or one of them is no node.
func Chain(g api.Graph, from, to int) ([]int, bool) {
	if Check(g) != api.OK || !isNode(g, from) || !isNode(g, to) {
		return nil, false
	}
	left := lengths(ways(g, backward), []int{to}, none)
	if left[from] < 0 {
		return nil, false
	}
	var chain []int
	n := from
	for n != to {
		// the least edge with which the chain gets shorter; there is one, as long as the end is not reached
		i := slices.IndexFunc(g.Edges, func(x api.Edge) bool { return x.From == n && left[x.To] == left[n]-1 })
		chain = append(chain, i)
		n = g.Edges[i].To
	}
	return chain, true
}

// Gates returns the nodes that are on every chain from one node to another one, in order; nothing, if there is no chain, the graph is not valid, or one of them is no node.
func Gates(g api.Graph, from, to int) []int {
	if _, found := Chain(g, from, to); !found {
		return nil
	}
	next := ways(g, forward)
	// there is no chain without one of its ends, either
	return choose(g, func(n int) bool { return lengths(next, []int{from}, n)[to] < 0 })
}
