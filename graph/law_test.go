package graph

import (
	"cmp"
	"math/rand"
	"slices"
	"strconv"
	"strings"
	"testing"

	"licit/api"
	"licit/build"
	"licit/record"
)

// plainCheck checks a graph by the plain words of the definition.
func plainCheck(g api.Graph) api.Errno {
	if len(g.Nodes) > 1024 || len(g.Edges) > 1024 {
		return api.ErrTooLarge
	}
	for _, n := range g.Nodes {
		if len(n) > 128 {
			return api.ErrName
		}
	}
	for i := range g.Nodes {
		if i > 0 && g.Nodes[i-1] >= g.Nodes[i] {
			return api.ErrOrder
		}
	}
	for _, x := range g.Edges {
		if x.From < 0 || x.From >= len(g.Nodes) || x.To < 0 || x.To >= len(g.Nodes) || x.Step < 0 {
			return api.ErrRange
		}
	}
	for i, x := range g.Edges {
		if i == 0 {
			continue
		}
		y := g.Edges[i-1]
		if y.From > x.From || y.From == x.From && (y.To > x.To || y.To == x.To && y.Step >= x.Step) {
			return api.ErrOrder
		}
	}
	return api.OK
}

// closure says for all pairs of nodes of a valid graph whether a chain that is not empty leads from the one to the other.
func closure(g api.Graph) [][]bool {
	leads := make([][]bool, len(g.Nodes))
	for i := range leads {
		leads[i] = make([]bool, len(g.Nodes))
	}
	for _, x := range g.Edges {
		leads[x.From][x.To] = true
	}
	for k := range leads {
		for i := range leads {
			for j := range leads {
				leads[i][j] = leads[i][j] || leads[i][k] && leads[k][j]
			}
		}
	}
	return leads
}

// plainChain returns the first chain with some edges in lexicographic order.
func plainChain(g api.Graph, from, to, size int) ([]int, bool) {
	if size == 0 {
		return nil, from == to
	}
	for i, x := range g.Edges {
		if x.From != from {
			continue
		}
		if rest, found := plainChain(g, x.To, to, size-1); found {
			return append([]int{i}, rest...), true
		}
	}
	return nil, false
}

// plainLeast returns the least chain from one node to another one.
func plainLeast(g api.Graph, from, to int) ([]int, bool) {
	for size := range len(g.Nodes) {
		if l, found := plainChain(g, from, to, size); found {
			return l, true
		}
	}
	return nil, false
}

// plainGates returns the nodes that are on all chains that pass no node twice; nil, if there is none.
func plainGates(g api.Graph, from, to int) []int {
	gates := []int(nil)
	found := false
	var walk func(path []int)
	walk = func(path []int) {
		last := path[len(path)-1]
		if last == to {
			if !found {
				gates = slices.Sorted(slices.Values(path))
			}
			found = true
			gates = slices.DeleteFunc(gates, func(n int) bool { return !slices.Contains(path, n) })
			return
		}
		for _, x := range g.Edges {
			if x.From == last && !slices.Contains(path, x.To) {
				walk(append(slices.Clone(path), x.To))
			}
		}
	}
	walk([]int{from})
	return gates
}

// plainOrder returns the order of the nodes, and whether there is one.
func plainOrder(g api.Graph) ([]int, bool) {
	var order []int
	for len(order) < len(g.Nodes) {
		least := -1
		for n := range g.Nodes {
			waits := slices.ContainsFunc(g.Edges, func(x api.Edge) bool { return x.To == n && !slices.Contains(order, x.From) })
			if !slices.Contains(order, n) && !waits {
				least = n
				break
			}
		}
		if least < 0 {
			return nil, false
		}
		order = append(order, least)
	}
	return order, true
}

// plainDepth returns the length of the longest chain that ends at a node of a graph without circles.
func plainDepth(g api.Graph, n int) int {
	depth := 0
	for _, x := range g.Edges {
		if x.To == n {
			depth = max(depth, plainDepth(g, x.From)+1)
		}
	}
	return depth
}

// someGraph returns a valid graph at random, often one without circles.
func someGraph(rnd *rand.Rand) api.Graph {
	var g api.Graph
	size := rnd.Intn(8)
	for i := range size {
		g.Nodes = append(g.Nodes, string(rune('a'+2*i)))
	}
	rank := rnd.Perm(size)
	loops := rnd.Intn(3) == 0
	for range rnd.Intn(18) {
		if size == 0 {
			break
		}
		x := edge(rnd.Intn(size), rnd.Intn(size), rnd.Intn(3))
		if loops || rank[x.From] < rank[x.To] {
			g.Edges = append(g.Edges, x)
		}
	}
	slices.SortFunc(g.Edges, func(x, y api.Edge) int {
		return cmp.Or(cmp.Compare(x.From, y.From), cmp.Compare(x.To, y.To), cmp.Compare(x.Step, y.Step))
	})
	g.Edges = slices.Compact(g.Edges)
	return g
}

// P18.2 to P18.5: everything is by the definition.
func TestByDefinition(t *testing.T) {
	rnd := rand.New(rand.NewSource(1))
	found := map[string]int{}
	for range 4000 {
		g := someGraph(rnd)
		before := copyOf(g)
		leads := closure(g)
		loops := false
		for n := range g.Nodes {
			loops = loops || leads[n][n]
			checkNode(t, g, leads, n)
			for m := range g.Nodes {
				found[checkPair(t, g, leads, n, m)]++
			}
		}
		want, is := plainOrder(g)
		order, e := Order(g)
		depths, f := Depths(g)
		if is == loops || (e == api.OK) != is || f != e || e != api.OK && e != api.ErrLoop || !slices.Equal(order, want) || len(depths) != len(order) {
			t.Fatal(g, order, e, depths, f)
		}
		for n, depth := range depths {
			if depth != plainDepth(g, n) {
				t.Fatal(g, depths)
			}
		}
		found[strconv.FormatBool(loops)]++
		if !isEqual(g, before) {
			t.Fatal(g, before)
		}
	}
	for _, what := range []string{"true", "false", "no chain", "short chain", "chain", "chain with gates"} {
		if found[what] < 200 {
			t.Error(what, found[what])
		}
	}
}

// checkNode checks what is reached from a node, and what reaches it.
func checkNode(t *testing.T, g api.Graph, leads [][]bool, n int) {
	t.Helper()
	var reach, back []int
	for m := range g.Nodes {
		if leads[n][m] {
			reach = append(reach, m)
		}
		if leads[m][n] {
			back = append(back, m)
		}
	}
	if l := Reach(g, n); !slices.Equal(l, reach) {
		t.Fatal(g, n, l)
	}
	if l := Back(g, n); !slices.Equal(l, back) {
		t.Fatal(g, n, l)
	}
}

// checkPair checks the least chain and the gates between two nodes, and says what was found.
func checkPair(t *testing.T, g api.Graph, leads [][]bool, n, m int) string {
	t.Helper()
	want, is := plainLeast(g, n, m)
	l, found := Chain(g, n, m)
	if found != is || !slices.Equal(l, want) || found != (n == m || leads[n][m]) {
		t.Fatal(g, n, m, l, found)
	}
	gates := Gates(g, n, m)
	if !slices.Equal(gates, plainGates(g, n, m)) || (gates != nil) != found {
		t.Fatal(g, n, m, gates)
	}
	// no edge leads closer to a node than one step
	for _, x := range g.Edges {
		if far, found := Chain(g, x.To, m); found && x.From == n && len(l) > len(far)+1 {
			t.Fatal(g, x, m)
		}
	}
	for k := range g.Nodes {
		if k == n || k == m || !found {
			continue
		}
		// without the edges of a node no chain passes it
		rest := api.Graph{Nodes: g.Nodes}
		for _, x := range g.Edges {
			if x.From != k && x.To != k {
				rest.Edges = append(rest.Edges, x)
			}
		}
		if _, another := Chain(rest, n, m); another == slices.Contains(gates, k) {
			t.Fatal(g, n, m, k)
		}
	}
	switch {
	case !found:
		return "no chain"
	case len(l) < 2:
		return "short chain"
	case len(gates) == 2:
		return "chain"
	}
	return "chain with gates"
}

// P18.1: graphs with several faults.
func TestFaultsByDefinition(t *testing.T) {
	rnd := rand.New(rand.NewSource(2))
	found := map[api.Errno]int{}
	for range 20000 {
		g := someGraph(rnd)
		for range rnd.Intn(4) {
			damage(rnd, &g)
		}
		want := plainCheck(g)
		found[want]++
		if e := Check(g); e != want {
			t.Fatal(g, e, want)
		}
		_, e := Order(g)
		_, f := Depths(g)
		if (e == api.ErrArg) != (want != api.OK) || e != f {
			t.Fatal(g, e, f)
		}
	}
	for _, e := range []api.Errno{api.OK, api.ErrName, api.ErrOrder, api.ErrRange} {
		if found[e] < 500 {
			t.Error(e, found[e])
		}
	}
}

// damage changes something of a graph.
func damage(rnd *rand.Rand, g *api.Graph) {
	if len(g.Nodes) == 0 || len(g.Edges) == 0 {
		return
	}
	n, x := rnd.Intn(len(g.Nodes)), &g.Edges[rnd.Intn(len(g.Edges))]
	switch rnd.Intn(6) {
	case 0:
		g.Nodes[n] = strings.Repeat(g.Nodes[n], 1+rnd.Intn(2)*127+rnd.Intn(2))
	case 1:
		g.Nodes[n] = string(rune('a' + rnd.Intn(16)))
	case 2:
		x.From += rnd.Intn(5) - 2
	case 3:
		x.To += rnd.Intn(5) - 2
	case 4:
		x.Step += rnd.Intn(5) - 2
	default:
		g.Nodes = g.Nodes[:len(g.Nodes)-rnd.Intn(2)]
	}
}

// checkRecord checks the graph of a valid record by the definition: its nodes and edges, that it has an order, and that a source reaches a path exactly if it is needed for it.
func checkRecord(t *testing.T, r api.Record) {
	t.Helper()
	g, e := Of(r)
	if e != api.OK || Check(g) != api.OK {
		t.Fatal(r, e)
	}
	edges := 0
	node := func(path string) int { return slices.Index(g.Nodes, path) }
	for i, s := range r {
		for _, f := range s.Reads {
			if !slices.Contains(g.Edges, edge(node(f.Path), node(s.Wrote.Path), i)) {
				t.Fatal(r, g)
			}
			edges++
		}
	}
	if edges != len(g.Edges) {
		t.Fatal(r, g)
	}
	if _, e := Order(g); e != api.OK {
		t.Fatal(r, e)
	}
	for n, path := range g.Nodes {
		if Reach(g, n) == nil && Back(g, n) == nil {
			t.Fatal(r, path)
		}
		for m, source := range g.Nodes {
			if record.Writer(r, source) >= 0 {
				continue
			}
			if slices.Contains(Reach(g, m), n) != slices.Contains(record.Sources(r, path), source) {
				t.Fatal(r, source, path)
			}
		}
	}
}

// P18.1, P18.5: the graphs of records at random.
func TestRecords(t *testing.T) {
	rnd := rand.New(rand.NewSource(3))
	for range 800 {
		var r api.Record
		names := []string{"a/s0", "m/s1", "z/s2"}
		for i := range rnd.Intn(7) {
			s := step(i, string(rune('a'+rnd.Intn(26)))+"/"+strconv.Itoa(i))
			for _, n := range rnd.Perm(len(names))[:1+rnd.Intn(3)] {
				s.Reads = append(s.Reads, file(names[n]))
			}
			r = append(r, s)
			names = append(names, s.Wrote.Path)
		}
		checkRecord(t, r)
	}
}

// P18.5: the graph of a build with a library, a generator and a patch.
func TestBuild(t *testing.T) {
	b, f := build.Build(api.Distribution{
		{Name: "lib", Version: "1", Recipe: "make", Tree: api.Tree{
			{Path: "make", Data: "compile u.src to u.o\narchive u.o to u.a\ninstall u.a as out/u.a"},
			{Path: "u.src", Data: "export fn util x 1\nreturn x + 1"},
		}},
		{Name: "app", Version: "1", Recipe: "make", Tree: api.Tree{
			{Path: "cat.src", Data: "export fn main 4\nlet c = in()\nwhile c != 4294967295 2\nout c\nset c = in()"},
			{Path: "fix", Data: "keep 2\ndrop 1\nadd 1\nout util(load(g))"},
			{Path: "main.src", Data: "include gen.src\nexport fn main 1\nout 1"},
			{Path: "make", Data: "compile cat.src to cat.o\nlink main cat.o to cat\nrun cat on tmpl to gen.src\npatch main.src with fix to fixed.src\ncompile fixed.src to main.o\nlink main main.o using @lib/out/u.a to main\nrun main on tmpl to result\ninstall result as out/result"},
			{Path: "other", Data: "nobody reads it"},
			{Path: "tmpl", Data: "extern util\ndata g 1\n65"},
		}},
	})
	if f.Error != api.OK {
		t.Fatal(f)
	}
	checkRecord(t, b.Record)
	g, _ := Of(b.Record)
	at := func(path string) int { return slices.Index(g.Nodes, path) }
	if at("app/other") >= 0 || at("app/make") >= 0 || len(g.Nodes) != 16 {
		t.Error(g.Nodes)
	}
	names := func(l []int) string {
		var paths []string
		for _, n := range l {
			paths = append(paths, g.Nodes[n])
		}
		return strings.Join(paths, " ")
	}
	if s := names(Gates(g, at("lib/u.src"), at("app/out/result"))); s != "app/main app/out/result app/result lib/out/u.a lib/u.a lib/u.o lib/u.src" {
		t.Error(s)
	}
	if s := names(Gates(g, at("app/tmpl"), at("app/out/result"))); s != "app/out/result app/result app/tmpl" {
		t.Error(s)
	}
	if l, found := Chain(g, at("app/tmpl"), at("app/out/result")); !found || len(l) != 2 {
		t.Error(l, found)
	}
	if depths, e := Depths(g); e != api.OK || depths[at("app/out/result")] != 7 || depths[at("lib/out/u.a")] != 3 || depths[at("app/tmpl")] != 0 {
		t.Error(depths, e)
	}
}
