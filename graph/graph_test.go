package graph

import (
	"math"
	"slices"
	"strconv"
	"strings"
	"testing"

	"licit/api"
	"licit/digest"
)

// edge returns an edge.
func edge(from, to, step int) api.Edge { return api.Edge{From: from, To: to, Step: step} }

// named returns a graph with the nodes that are the letters of a string.
func named(letters string, edges ...api.Edge) api.Graph {
	g := api.Graph{Edges: edges}
	for _, c := range letters {
		g.Nodes = append(g.Nodes, string(c))
	}
	return g
}

// example is that of the chapter.
func example() api.Graph {
	return named("abcd", edge(0, 1, 0), edge(0, 2, 1), edge(1, 3, 2), edge(2, 3, 3))
}

// isEqual says whether two graphs are equal.
func isEqual(a, b api.Graph) bool {
	return slices.Equal(a.Nodes, b.Nodes) && slices.Equal(a.Edges, b.Edges)
}

// copyOf returns a graph that shares no memory with another one.
func copyOf(g api.Graph) api.Graph {
	return api.Graph{Nodes: slices.Clone(g.Nodes), Edges: slices.Clone(g.Edges)}
}

// line returns a graph with some nodes, of which each one leads to the next one.
func line(nodes int) api.Graph {
	var g api.Graph
	for i := range nodes {
		g.Nodes = append(g.Nodes, strconv.Itoa(10000+i))
		if i > 0 {
			g.Edges = append(g.Edges, edge(i-1, i, 0))
		}
	}
	return g
}

// parallel returns a graph with two nodes, and some edges from the one to the other.
func parallel(edges int) api.Graph {
	g := named("ab")
	for i := range edges {
		g.Edges = append(g.Edges, edge(0, 1, i))
	}
	return g
}

// invalid is a graph with its first fault.
type invalid struct {
	g api.Graph
	e api.Errno
}

// invalidGraphs returns graphs with faults, one alone and several, of which the one that is named first decides.
func invalidGraphs() []invalid {
	long := strings.Repeat("z", api.MaxPath+1)
	return []invalid{
		{line(api.MaxList + 1), api.ErrTooLarge},
		{parallel(api.MaxList + 1), api.ErrTooLarge},
		{api.Graph{Nodes: make([]string, api.MaxList+1)}, api.ErrTooLarge},
		{api.Graph{Edges: make([]api.Edge, api.MaxList+1)}, api.ErrTooLarge},
		{api.Graph{Nodes: append(line(api.MaxList).Nodes, long)}, api.ErrTooLarge},
		{api.Graph{Nodes: []string{long}}, api.ErrName},
		{api.Graph{Nodes: []string{"a", long}}, api.ErrName},
		{api.Graph{Nodes: []string{strings.Repeat("a", api.MaxData)}}, api.ErrName},
		{api.Graph{Nodes: []string{"b", "a", long}}, api.ErrName},
		{api.Graph{Nodes: []string{"b", "b", long}, Edges: []api.Edge{edge(9, 9, -1)}}, api.ErrName},
		{named("aa"), api.ErrOrder},
		{named("ba"), api.ErrOrder},
		{named("abdc"), api.ErrOrder},
		{named("abb"), api.ErrOrder},
		{api.Graph{Nodes: []string{"a", ""}}, api.ErrOrder},
		{api.Graph{Nodes: []string{"", ""}}, api.ErrOrder},
		{api.Graph{Nodes: []string{"a/b", "a-b"}}, api.ErrOrder},
		{named("ba", edge(0, 2, 0)), api.ErrOrder},
		{named("ba", edge(0, 1, -1)), api.ErrOrder},
		{named("ab", edge(0, 2, 0)), api.ErrRange},
		{named("ab", edge(2, 0, 0)), api.ErrRange},
		{named("ab", edge(-1, 0, 0)), api.ErrRange},
		{named("ab", edge(0, -1, 0)), api.ErrRange},
		{named("ab", edge(0, 1, -1)), api.ErrRange},
		{named("ab", edge(0, math.MaxInt, 0)), api.ErrRange},
		{named("ab", edge(math.MinInt, 0, 0)), api.ErrRange},
		{named("ab", edge(0, 1, math.MinInt)), api.ErrRange},
		{named("", edge(0, 0, 0)), api.ErrRange},
		{named("ab", edge(0, 1, 0), edge(1, 1, 0), edge(1, 2, 0)), api.ErrRange},
		{named("ab", edge(1, 1, 0), edge(0, 1, 0), edge(0, 1, -1)), api.ErrRange},
		{named("ab", edge(1, 0, 0), edge(0, 1, 0)), api.ErrOrder},
		{named("ab", edge(0, 1, 0), edge(0, 0, 1)), api.ErrOrder},
		{named("ab", edge(0, 1, 1), edge(0, 1, 0)), api.ErrOrder},
		{named("ab", edge(0, 1, 1), edge(0, 1, 1)), api.ErrOrder},
		{named("abc", edge(0, 1, 1), edge(0, 2, 1), edge(1, 2, 0), edge(1, 1, 5)), api.ErrOrder},
	}
}

// P18.1: valid graphs, at the limits among others.
func TestCheck(t *testing.T) {
	for i, g := range []api.Graph{
		{},
		{Nodes: []string{}, Edges: []api.Edge{}},
		example(),
		{Nodes: []string{""}},
		{Nodes: []string{"", "\x00", "A b", "a-b", "a/b", "\xff"}},
		{Nodes: []string{strings.Repeat("z", api.MaxPath)}},
		line(api.MaxList),
		parallel(api.MaxList),
		named("abc"),
		named("a", edge(0, 0, 0)),
		named("a", edge(0, 0, 0), edge(0, 0, 1), edge(0, 0, math.MaxInt)),
		named("ab", edge(0, 1, 9), edge(1, 0, 0), edge(1, 1, 0)),
		named("ab", edge(0, 0, 9), edge(0, 1, 8), edge(1, 0, 7), edge(1, 0, 8)),
	} {
		if e := Check(g); e != api.OK {
			t.Error(i, e)
		}
	}
}

// P18.1, and the errors of all functions: graphs that are not valid.
func TestInvalidGraphs(t *testing.T) {
	for i, x := range invalidGraphs() {
		if e := Check(x.g); e != x.e {
			t.Error(i, e, x.e)
		}
		if l, e := Order(x.g); l != nil || e != api.ErrArg {
			t.Error(i, l, e)
		}
		if l, e := Depths(x.g); l != nil || e != api.ErrArg {
			t.Error(i, l, e)
		}
		for _, n := range []int{0, 1, -1, math.MaxInt} {
			if l, m := Reach(x.g, n), Back(x.g, n); l != nil || m != nil {
				t.Error(i, l, m)
			}
			for _, m := range []int{0, 1, -1, math.MinInt} {
				if l, found := Chain(x.g, n, m); l != nil || found {
					t.Error(i, l, found)
				}
				if l := Gates(x.g, n, m); l != nil {
					t.Error(i, l)
				}
			}
		}
	}
}

// file returns a touched file, with the digest of its path.
func file(path string) api.Touch { return api.Touch{Path: path, Digest: digest.Sum(path)} }

// step returns a step, in a line of a recipe.
func step(line int, wrote string, reads ...string) api.Done {
	s := api.Done{Line: line, Kind: api.StepArchive, Wrote: file(wrote)}
	for _, p := range reads {
		s.Reads = append(s.Reads, file(p))
	}
	return s
}

// P18.1: the graphs of records.
func TestOf(t *testing.T) {
	for i, x := range []struct {
		r    api.Record
		want api.Graph
	}{
		{nil, api.Graph{}},
		{api.Record{}, api.Graph{}},
		{api.Record{step(0, "a/o", "a/x")}, api.Graph{Nodes: []string{"a/o", "a/x"}, Edges: []api.Edge{edge(1, 0, 0)}}},
		{api.Record{step(0, "a/o", "a/x"), step(1, "a/b", "a/o")}, api.Graph{Nodes: []string{"a/b", "a/o", "a/x"}, Edges: []api.Edge{edge(1, 0, 1), edge(2, 1, 0)}}},
		// a source that is read by several steps, and a file that is needed on two ways; the lines of recipes are no steps
		{
			api.Record{step(3, "o", "x", "b"), step(5, "a", "x", "o"), step(9, "z", "x", "o", "a")},
			api.Graph{Nodes: []string{"a", "b", "o", "x", "z"}, Edges: []api.Edge{edge(0, 4, 2), edge(1, 2, 0), edge(2, 0, 1), edge(2, 4, 2), edge(3, 0, 1), edge(3, 2, 0), edge(3, 4, 2)}},
		},
	} {
		if g, e := Of(x.r); e != api.OK || !isEqual(g, x.want) {
			t.Error(i, g, e)
		}
	}
}

// P18.1: records that are not valid, which comes before graphs that are too large.
func TestOfErrors(t *testing.T) {
	// wide has a step with some reads; tall has steps, each with a read of its own or a common one
	wide := func(reads int) api.Record {
		s := step(0, "w")
		for i := range reads {
			s.Reads = append(s.Reads, file("x"+strconv.Itoa(i)))
		}
		return api.Record{s}
	}
	tall := func(steps int, source func(i int) string) api.Record {
		var r api.Record
		for i := range steps {
			r = append(r, step(i, "o"+strconv.Itoa(i), source(i)))
		}
		return r
	}
	own := func(i int) string { return "x" + strconv.Itoa(i) }
	common := func(int) string { return "x" }
	both := func(reads int) api.Record {
		return append(wide(reads), step(1, "v", "x0", "x1"))
	}
	for i, x := range []struct {
		r            api.Record
		e            api.Errno
		nodes, edges int
	}{
		{wide(api.MaxList - 1), api.OK, api.MaxList, api.MaxList - 1},
		{wide(api.MaxList), api.ErrTooLarge, 0, 0},
		{tall(api.MaxList/2, own), api.OK, api.MaxList, api.MaxList / 2},
		{tall(api.MaxList/2+1, own), api.ErrTooLarge, 0, 0},
		{tall(api.MaxList-1, common), api.OK, api.MaxList, api.MaxList - 1},
		{tall(api.MaxList, common), api.ErrTooLarge, 0, 0},
		{both(api.MaxList - 2), api.OK, api.MaxList, api.MaxList},
		{append(tall(512, func(i int) string { return "x" + strconv.Itoa(i%2) }), api.Done{Package: 1, Kind: 1, Reads: wide(512)[0].Reads, Wrote: file("v")}), api.ErrTooLarge, 0, 0},
		// few nodes, and one edge too many
		{dense(1023), api.OK, 46, 1023},
		{dense(1024), api.OK, 46, 1024},
		{dense(1025), api.ErrTooLarge, 0, 0},
		{api.Record{{}}, api.ErrArg, 0, 0},
		{append(wide(api.MaxList), step(0, "v", "x0")), api.ErrArg, 0, 0},
		{wide(api.MaxList + 1), api.ErrArg, 0, 0},
	} {
		if g, e := Of(x.r); e != x.e || len(g.Nodes) != x.nodes || len(g.Edges) != x.edges || Check(g) != api.OK {
			t.Error(i, len(g.Nodes), len(g.Edges), e)
		}
	}
}

// dense returns a record with some reads, whose steps read all that was written before, and a source.
func dense(reads int) api.Record {
	var r api.Record
	paths := []string{"source"}
	for reads > 0 {
		n := min(reads, len(paths))
		r = append(r, step(len(r), "o"+strconv.Itoa(len(r)), paths[:n]...))
		paths = append(paths, r[len(r)-1].Wrote.Path)
		reads -= n
	}
	return r
}

// P18.1: a record stays as it is, behind the ends of its slices too.
func TestOfArguments(t *testing.T) {
	s := step(0, "o", "x", "guard")
	reads := s.Reads
	s.Reads = reads[:1]
	if g, e := Of(api.Record{s}); e != api.OK || len(g.Nodes) != 2 || reads[1] != file("guard") {
		t.Error(g, e, reads)
	}
}
