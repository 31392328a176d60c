package chain

import (
	"fmt"
	"slices"
	"strconv"
	"strings"
	"testing"

	"licit/api"
	"licit/sample"
)

// pack returns a package with the lines of a recipe, and paths and data of other files in turn.
func pack(name string, recipe []string, parts ...string) api.Package {
	return sample.Package(name, lines(recipe...), parts...)
}

// lines joins lines.
func lines(l ...string) string { return strings.Join(l, "\n") }

// at returns a line.
func at(path string, n int) api.Line { return api.Line{Path: path, N: n} }

// words are those for routes in the texts of tests.
var words = map[int]string{api.RouteIn: "in", api.RouteBy: "by", api.RouteList: "list", api.RouteRecipe: "recipe"}

// show writes a chain whose hops fit together: its line, its route, and of each hop the step, the segment that it leads to, and the route if it is another one than RouteIn; "a/x:1 by: 0 a/y:1, 2 a/z by".
func show(c api.Chain) string {
	var hops []string
	for _, h := range c.Hops {
		hop := strconv.Itoa(h.Step) + " " + sample.Show(h.To)
		if h.Route != api.RouteIn {
			hop += " " + words[h.Route]
		}
		hops = append(hops, hop)
	}
	return strings.TrimSpace(fmt.Sprintf("%s:%d %s: %s", c.Line.Path, c.Line.N, words[c.Route], strings.Join(hops, ", ")))
}

// chainOf returns the chain that show writes.
func chainOf(text string) api.Chain {
	head, rest, _ := strings.Cut(text, ": ")
	head = strings.TrimSuffix(head, ":")
	from, route, _ := strings.Cut(head, " ")
	start := segment(from)
	c := api.Chain{Line: at(start.Path, start.Index), Route: routeNamed(route)}
	for _, hop := range strings.Split(rest, ", ") {
		if hop == "" {
			break
		}
		l := append(strings.Fields(hop), "in")
		step, _ := strconv.Atoi(l[0])
		to := segment(l[1])
		c.Hops = append(c.Hops, api.Hop{Step: step, From: start, To: to, Route: routeNamed(l[2])})
		start = to
	}
	return c
}

// routeNamed returns the route with a word.
func routeNamed(word string) int {
	for route, w := range words {
		if w == word {
			return route
		}
	}
	return 0
}

// segment returns the segment that sample.Show writes.
func segment(text string) api.Segment {
	s := api.Segment{Kind: api.SegmentFile}
	if whole, is := strings.CutSuffix(text, "[]"); is {
		s.Kind, text = api.SegmentList, whole
	}
	for mark, kind := range map[string]int{":": api.SegmentLine, "#": api.SegmentSection} {
		if path, n, is := strings.Cut(text, mark); is {
			s.Kind, text = kind, path
			s.Index, _ = strconv.Atoi(n)
		}
	}
	s.Path, s.Member, _ = strings.Cut(text, "!")
	return s
}

// expect compares the least chain from a line, which has to be accepted.
func expect(t *testing.T, d api.Distribution, output string, want string) {
	t.Helper()
	c, e := Find(d, output, chainOf(want).Line)
	if e != api.OK || show(c) != want || !equal(c, chainOf(want)) {
		t.Errorf("%s %d\n%s\n%s", output, e, show(c), want)
	}
	if e := Check(d, output, c); e != api.OK {
		t.Error(output, want, e)
	}
}

// expectAll compares the least chains from all lines.
func expectAll(t *testing.T, d api.Distribution, output string, want ...string) {
	t.Helper()
	l, e := Each(d, output)
	if e != api.OK {
		t.Fatal(output, e)
	}
	var got []string
	for _, c := range l {
		got = append(got, show(c))
	}
	if !slices.Equal(got, want) {
		t.Errorf("%s\n%s\n%s", output, lines(got...), lines(want...))
	}
	for _, text := range want {
		expect(t, d, output, text)
	}
}

// expectCheck checks a chain.
func expectCheck(t *testing.T, d api.Distribution, output string, c api.Chain, want api.Errno) {
	t.Helper()
	if e := Check(d, output, c); e != want {
		t.Errorf("%s %s: %d", output, show(c), e)
	}
}

// equal compares chains.
func equal(a, b api.Chain) bool {
	return a.Line == b.Line && a.Route == b.Route && slices.Equal(a.Hops, b.Hops)
}
