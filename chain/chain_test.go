package chain

import (
	"fmt"
	"math"
	"slices"
	"strings"
	"testing"

	"licit/api"
	"licit/build"
	"licit/influence"
	"licit/sample"
	"licit/tree"
)

// P21.1, P21.2, P21.3: the example of the chapter.
func TestExample(t *testing.T) {
	d := sample.Example()
	line := func(path string, n int) api.Segment {
		return api.Segment{Path: path, Kind: api.SegmentLine, Index: n}
	}
	want := api.Chain{Line: at("app/p", 3), Route: api.RouteIn, Hops: []api.Hop{
		{Step: 0, From: line("app/p", 3), To: line("app/y", 1), Route: api.RouteIn},
		{Step: 1, From: line("app/y", 1), To: line("app/z", 1), Route: api.RouteIn},
	}}
	c, e := Find(d, "app/z", at("app/p", 3))
	if e != api.OK || !equal(c, want) {
		t.Error(c, e)
	}
	if e := Check(d, "app/z", want); e != api.OK {
		t.Error(e)
	}
	text, e := Explain(d, want)
	if e != api.OK || text != "app/p line 3\nstep 0 patch in app/y line 1\nstep 1 install in app/z line 1\n" {
		t.Error(text, e)
	}
	expectAll(t, d, "app/z",
		"app/p:0 in: 0 app/y, 1 app/z", "app/p:1 in: 0 app/y, 1 app/z", "app/p:2 in: 0 app/y, 1 app/z", "app/p:3 in: 0 app/y:1, 1 app/z:1",
		"app/recipe:0 recipe:", "app/recipe:1 recipe:", "app/x:0 in: 0 app/y:0, 1 app/z:0")
	// the line that is dropped leads nowhere
	if c, e := Find(d, "app/z", at("app/x", 1)); e != api.ErrUnknown || !equal(c, api.Chain{}) {
		t.Error(c, e)
	}
}

// P21.1: outputs that are texts, objects, archives, libraries and binaries, on each of the routes.
func TestOutputs(t *testing.T) {
	d := sample.Factory()
	source := "6 app/f.src, 7 app/f.o, 9 app/l.a!app/f.o"
	gen := "0 lib/gen.o, 1 lib/gen, 2 lib/out/gen, 6 app/f.src by"
	loop := "0 lib/gen.o#0, 1 lib/gen#0, 2 lib/out/gen#0, 6 app/f.src by"
	for _, x := range []struct{ output, want string }{
		// a line of the heads of a member, and one of a body that is not selected: all of the input flows everywhere
		{"app/out/bin", "app/f.txt:0 in: " + source + ", 10 app/bin, 12 app/out/bin"},
		{"app/out/bin", "app/f.txt:4 in: " + source + ", 10 app/bin, 12 app/out/bin"},
		{"app/out/bin", "app/m.src:1 in: 8 app/m.o, 10 app/bin, 12 app/out/bin"},
		{"app/out/bin", "app/m.src:2 in: 8 app/m.o#0, 10 app/bin#0, 12 app/out/bin#0"},
		// an export list
		{"app/out/bin", "lib/g.src:2 list: 3 lib/g.o, 4 lib/g.so[], 5 lib/out/g.so[], 10 app/bin list, 12 app/out/bin"},
		// a program that was run
		{"app/out/bin", "lib/gen.src:0 by: " + gen + ", 7 app/f.o, 9 app/l.a!app/f.o, 10 app/bin, 12 app/out/bin"},
		{"app/out/bin", "lib/gen.src:5 by: " + loop + ", 7 app/f.o, 9 app/l.a!app/f.o, 10 app/bin, 12 app/out/bin"},
		{"app/out/l.a", "app/m.src:0 in: 8 app/m.o, 9 app/l.a!app/m.o, 13 app/out/l.a!app/m.o"},
		{"app/out/l.a", "app/m.src:3 in: 8 app/m.o#0, 9 app/l.a!app/m.o#0, 13 app/out/l.a!app/m.o#0"},
		{"app/out/m.o", "app/m.src:0 in: 8 app/m.o, 14 app/out/m.o"},
		{"app/out/m.o", "app/m.src:2 in: 8 app/m.o#0, 14 app/out/m.o#0"},
		{"app/out/f.src", "lib/gen.src:6 by: " + loop + ", 16 app/out/f.src"},
		{"app/out/in", "app/in:0 in: 17 app/out/in:0"},
		{"lib/out/gen", "lib/gen.src:3 in: 0 lib/gen.o#0, 1 lib/gen#0, 2 lib/out/gen#0"},
		{"lib/out/g.so", "lib/g.src:0 in: 3 lib/g.o, 4 lib/g.so, 5 lib/out/g.so"},
		{"lib/out/g.so", "lib/g.src:3 in: 3 lib/g.o#1, 4 lib/g.so#1, 5 lib/out/g.so#1"},
		// all of a library that a run uses, and what it was linked for by a list; the run has the last word
		{"app/out/text", "lib/g.src:3 by: 3 lib/g.o#1, 4 lib/g.so#1, 5 lib/out/g.so#1, 11 app/text by, 15 app/out/text"},
		{"app/out/text", "lib/g.src:2 by: 3 lib/g.o, 4 lib/g.so, 5 lib/out/g.so, 11 app/text by, 15 app/out/text"},
		{"app/out/text", "app/in:0 in: 11 app/text, 15 app/out/text"},
		// recipes of this package and of the one before
		{"app/out/text", "lib/recipe:5 recipe:"},
		{"app/out/text", "app/recipe:11 recipe:"},
		{"lib/out/gen", "lib/recipe:5 recipe:"},
	} {
		expect(t, d, x.output, x.want)
	}
}

// P21.1: all lines from which there is a chain, in the order of their paths, which is not that of the packages, and of their numbers.
func TestEach(t *testing.T) {
	expectAll(t, sample.Factory(), "lib/out/g.so",
		"lib/g.src:0 in: 3 lib/g.o, 4 lib/g.so, 5 lib/out/g.so",
		"lib/g.src:1 in: 3 lib/g.o#0, 4 lib/g.so#0, 5 lib/out/g.so#0",
		"lib/g.src:2 in: 3 lib/g.o, 4 lib/g.so, 5 lib/out/g.so",
		"lib/g.src:3 in: 3 lib/g.o#1, 4 lib/g.so#1, 5 lib/out/g.so#1",
		"lib/recipe:0 recipe:", "lib/recipe:1 recipe:", "lib/recipe:2 recipe:", "lib/recipe:3 recipe:", "lib/recipe:4 recipe:", "lib/recipe:5 recipe:")
	// the lines 2 and 10 are in the order of their numbers
	want := []string{"a/recipe:0 recipe:", "a/recipe:1 recipe:", "b/recipe:0 recipe:"}
	for n := range 12 {
		want = append(want, fmt.Sprintf("b/x:%[1]d in: 0 b/o:%[1]d, 1 a/y:%[1]d, 2 a/o:%[1]d", n))
	}
	expectAll(t, api.Distribution{
		pack("b", []string{"install x as o"}, "x", strings.Repeat("\n", 11)),
		pack("a", []string{"copy @b/o to y", "install y as o"}, "y-", "1"),
	}, "a/o", want...)
	// an empty file has one line, too
	expectAll(t, api.Distribution{pack("a", []string{"compile s to o", "install o as z"}, "s", "")}, "a/z",
		"a/recipe:0 recipe:", "a/recipe:1 recipe:", "a/s:0 in: 0 a/o, 1 a/z")
}

// P21.1, P21.2: lines of a recipe from which there are chains with hops, too.
func TestRecipes(t *testing.T) {
	d := api.Distribution{
		pack("a", []string{"copy recipe to x", "install x as o", "install f as p"}, "f", "1\n2"),
		pack("b", []string{"install @a/o as o"}),
	}
	expectAll(t, d, "a/o", "a/recipe:0 in: 0 a/x:0, 1 a/o:0", "a/recipe:1 in: 0 a/x:1, 1 a/o:1", "a/recipe:2 in: 0 a/x:2, 1 a/o:2")
	expectAll(t, d, "a/p", "a/f:0 in: 2 a/p:0", "a/f:1 in: 2 a/p:1", "a/recipe:0 recipe:", "a/recipe:1 recipe:", "a/recipe:2 recipe:")
	expectAll(t, d, "b/o", "a/recipe:0 in: 0 a/x:0, 1 a/o:0, 3 b/o:0", "a/recipe:1 in: 0 a/x:1, 1 a/o:1, 3 b/o:1", "a/recipe:2 in: 0 a/x:2, 1 a/o:2, 3 b/o:2", "b/recipe:0 recipe:")
	for _, x := range []struct {
		output, text string
		want         api.Errno
	}{
		{"a/o", "a/recipe:0 recipe:", api.OK},
		{"b/o", "a/recipe:2 recipe:", api.OK},
		{"b/o", "b/recipe:0 recipe:", api.OK},
		// the recipe of a later package, lines behind the end, other files
		{"a/o", "b/recipe:0 recipe:", api.ErrProof},
		{"a/o", "a/recipe:3 recipe:", api.ErrProof},
		{"a/o", "a/f:0 recipe:", api.ErrProof},
		{"a/o", "a/x:0 recipe:", api.ErrProof},
		// other routes without hops, and hops with the route of recipes
		{"a/o", "a/recipe:0 in:", api.ErrProof},
		{"a/o", "a/recipe:0 by:", api.ErrProof},
		{"a/o", "a/recipe:0 list:", api.ErrProof},
		{"a/o", "a/recipe:0 recipe: 0 a/x:0, 1 a/o:0", api.ErrProof},
		{"a/o", "a/recipe:0 recipe: 0 a/x:0, 1 a/o:0 recipe", api.ErrProof},
	} {
		expectCheck(t, d, x.output, chainOf(x.text), x.want)
	}
	for _, n := range []int{-1, 3, math.MaxInt, math.MinInt} {
		expectCheck(t, d, "a/o", api.Chain{Line: at("a/recipe", n), Route: api.RouteRecipe}, api.ErrProof)
		if _, e := Find(d, "a/o", at("a/recipe", n)); e != api.ErrUnknown {
			t.Error(n, e)
		}
	}
	for _, route := range []int{0, -1, 5, math.MaxInt} {
		expectCheck(t, d, "a/o", api.Chain{Line: at("a/recipe", 0), Route: route}, api.ErrProof)
	}
}

// rivals is a distribution with several chains of the same length, and shorter ones, from one line to one output.
func rivals() api.Distribution {
	b, _ := build.Build(sample.Factory())
	library, _ := tree.Find(b.Files, "lib/g.so")
	return api.Distribution{pack("a", []string{
		"copy q to z", "copy q to b", "patch b with z to c", "install c as step",
		"patch b with q to e", "install e as shorter",
		"patch q with q to f", "install f as kind",
		"compile s to s.o", "install s.o as index",
		"link main s.o to s.bin", "run s.bin on s.bin to g", "install g as route",
		"compile m to m.o", "link main m.o using ready.so to m.bin", "install m.bin as list"},
		"q", lines("keep 3", "add 1", "x"),
		"s", lines("define two 1", "2", "export fn main 1", "out two", "export fn f 1", "return two"),
		"m", lines("extern g", "export fn main 1", "return g ( )"),
		"ready.so", library)}
}

// P21.1: of chains of the same length the one whose hops come first: by the step, whatever it writes, by the kind and by the index of what it writes, and by the route. A shorter chain comes before all of them. P21.2: the others are chains, too.
func TestLeast(t *testing.T) {
	d := rivals()
	for _, x := range []struct {
		output, want string
		others       []string
	}{
		// the copies of the line are a line of the text of a patch, and one of the file that it changes
		{"a/step", "a/q:0 in: 0 a/z:0, 2 a/c, 3 a/step", []string{"a/q:0 in: 1 a/b:0, 2 a/c:0, 3 a/step:0"}},
		{"a/step", "a/q:2 in: 0 a/z:2, 2 a/c:3, 3 a/step:3", []string{"a/q:2 in: 1 a/b:2, 2 a/c:2, 3 a/step:2"}},
		{"a/shorter", "a/q:0 in: 4 a/e, 5 a/shorter", []string{"a/q:0 in: 1 a/b:0, 4 a/e:0, 5 a/shorter:0"}},
		{"a/shorter", "a/q:2 in: 4 a/e:3, 5 a/shorter:3", []string{"a/q:2 in: 1 a/b:2, 4 a/e:2, 5 a/shorter:2"}},
		{"a/kind", "a/q:1 in: 6 a/f, 7 a/kind", []string{"a/q:1 in: 6 a/f:1, 7 a/kind:1"}},
		{"a/kind", "a/q:2 in: 6 a/f:2, 7 a/kind:2", []string{"a/q:2 in: 6 a/f:3, 7 a/kind:3"}},
		// a body of a macro is in both sections, a head in all segments
		{"a/index", "a/s:1 in: 8 a/s.o#0, 9 a/index#0", []string{"a/s:1 in: 8 a/s.o#1, 9 a/index#1"}},
		{"a/index", "a/s:0 in: 8 a/s.o, 9 a/index", []string{"a/s:0 in: 8 a/s.o#0, 9 a/index#0", "a/s:0 in: 8 a/s.o#1, 9 a/index#1"}},
		// a program that is its own input
		{"a/route", "a/s:3 in: 8 a/s.o#0, 10 a/s.bin#0, 11 a/g, 12 a/route", []string{
			"a/s:3 by: 8 a/s.o#0, 10 a/s.bin#0, 11 a/g by, 12 a/route", "a/s:3 in: 8 a/s.o#0, 10 a/s.bin#0, 11 a/g:0, 12 a/route:0"}},
		// a library that no step has made is a text: all of it was read, and all of it as its export list
		{"a/list", "a/ready.so:0 in: 14 a/m.bin, 15 a/list", []string{
			"a/ready.so:0 list: 14 a/m.bin list, 15 a/list", "a/ready.so:0 in: 14 a/m.bin#0, 15 a/list#0", "a/ready.so:0 list: 14 a/m.bin#0 list, 15 a/list#0"}},
	} {
		expect(t, d, x.output, x.want)
		for _, text := range x.others {
			expectCheck(t, d, x.output, chainOf(text), api.OK)
		}
	}
}

// P21.1: a segment that comes first is not taken if it is farther away: all of a library is the input of a run, but its export list alone is near.
func TestNearer(t *testing.T) {
	d := api.Distribution{pack("a", []string{
		"compile g.src to g.o", "share g.o to so", "compile s to s.o", "link main s.o to s.bin", "run s.bin on so to t",
		"compile t to t.o", "compile m to m.o", "link main m.o t.o using so to bin", "install bin as z"},
		"g.src", lines("export fn g 1", "return 65"), "s", lines("export fn main 1", "out 10"), "m", lines("extern g", "export fn main 1", "out g ( )"))}
	expect(t, d, "a/z", "a/g.src:0 list: 0 a/g.o, 1 a/so[], 7 a/bin list, 8 a/z")
	expect(t, d, "a/z", "a/g.src:1 in: 0 a/g.o#0, 1 a/so#0, 4 a/t, 5 a/t.o, 7 a/bin, 8 a/z")
	for _, text := range []string{
		"a/g.src:0 in: 0 a/g.o, 1 a/so, 4 a/t, 5 a/t.o, 7 a/bin, 8 a/z",
		"a/g.src:0 in: 0 a/g.o, 1 a/so[], 4 a/t, 5 a/t.o, 7 a/bin, 8 a/z",
		"a/g.src:0 in: 0 a/g.o#0, 1 a/so#0, 4 a/t, 5 a/t.o, 7 a/bin#0, 8 a/z#0",
	} {
		expectCheck(t, d, "a/z", chainOf(text), api.OK)
	}
}

// P21.1, P21.2, P21.4: the least chain of a line on two routes is on one of them, not always on the first one; chains on the other one are accepted, with its route alone.
func TestTwoRoutes(t *testing.T) {
	d := api.Distribution{
		pack("lib", []string{"compile f.src to f.o", "compile g.src to g.o", "share f.o g.o to so", "archive f.o to a", "install so as so2", "install a as a2"},
			"f.src", lines("export fn f x 1", "return x"), "g.src", lines("export fn g 1", "return 2")),
		pack("app", []string{"compile m.src to m.o", "link main m.o using @lib/a2 @lib/so2 to bin", "run bin using @lib/so2 on m.src to text", "install text as text2", "install bin as bin2"},
			"m.src", lines("extern f", "extern g", "export fn main 1", "out f ( g ( ) )")),
	}
	for _, x := range []struct {
		output string
		routes []int
		chains []string
	}{
		{"app/text2", []int{api.RouteIn, api.RouteBy}, []string{
			"app/m.src:3 in: 8 app/text, 9 app/text2", "app/m.src:3 in: 8 app/text:0, 9 app/text2:0",
			"app/m.src:3 by: 6 app/m.o#0, 7 app/bin#0, 8 app/text by, 9 app/text2", "app/m.src:3 by: 6 app/m.o#0, 7 app/bin#0, 8 app/text:0 by, 9 app/text2:0"}},
		// what was a list on the way to the program that was run comes by it
		{"app/text2", []int{api.RouteBy}, []string{
			"lib/f.src:0 by: 0 lib/f.o, 2 lib/so, 4 lib/so2, 8 app/text by, 9 app/text2",
			"lib/f.src:0 by: 0 lib/f.o, 2 lib/so[], 4 lib/so2[], 8 app/text by, 9 app/text2",
			"lib/f.src:0 by: 0 lib/f.o, 2 lib/so[], 4 lib/so2[], 7 app/bin list, 8 app/text by, 9 app/text2",
			"lib/f.src:0 by: 0 lib/f.o, 3 lib/a!lib/f.o, 5 lib/a2!lib/f.o, 7 app/bin, 8 app/text by, 9 app/text2"}},
		{"app/bin2", []int{api.RouteIn, api.RouteList}, []string{
			"lib/f.src:0 list: 0 lib/f.o, 2 lib/so[], 4 lib/so2[], 7 app/bin list, 10 app/bin2",
			"lib/f.src:0 in: 0 lib/f.o, 3 lib/a!lib/f.o, 5 lib/a2!lib/f.o, 7 app/bin, 10 app/bin2",
			"lib/f.src:0 list: 0 lib/f.o, 2 lib/so[], 4 lib/so2[], 7 app/bin#0 list, 10 app/bin2#0"}},
	} {
		i, _ := influence.Of(d, x.output)
		if routes := influence.Routes(i, chainOf(x.chains[0]).Line); !slices.Equal(routes, x.routes) {
			t.Error(x.chains[0], routes)
		}
		expect(t, d, x.output, x.chains[0])
		for _, text := range x.chains {
			c := chainOf(text)
			right := c.Route
			for route := range 6 {
				want := api.ErrProof
				if route == right {
					want = api.OK
				}
				c.Route = route
				expectCheck(t, d, x.output, c, want)
			}
		}
	}
}

// P21.1, P21.2: a run decides the route of a chain, whether an export list comes before it or behind it.
func TestRunAndList(t *testing.T) {
	d := sample.Factory()[:1]
	d = append(d, pack("app", []string{"run @lib/out/gen on g.txt to g.src", "compile g.src to g.o", "share g.o to so", "compile m.src to m.o", "link main m.o using so to bin", "run bin using so on g.txt to text", "install bin as bin2", "install text as text2"},
		"g.txt", lines("export fn g 1", "return 65"), "m.src", lines("extern g", "export fn main 1", "out g ( )")))
	first := "0 lib/gen.o, 1 lib/gen, 2 lib/out/gen, 6 app/g.src by, 7 app/g.o, "
	expect(t, d, "app/bin2", "lib/gen.src:0 by: "+first+"8 app/so[], 10 app/bin list, 12 app/bin2")
	expect(t, d, "app/bin2", "app/g.txt:0 list: 6 app/g.src, 7 app/g.o, 8 app/so[], 10 app/bin list, 12 app/bin2")
	expect(t, d, "app/text2", "lib/gen.src:0 by: "+first+"8 app/so, 11 app/text by, 13 app/text2")
	for _, x := range []struct {
		text string
		want api.Errno
	}{
		{"lib/gen.src:0 by: " + first + "8 app/so[], 10 app/bin list, 11 app/text by, 13 app/text2", api.OK},
		{"lib/gen.src:0 list: " + first + "8 app/so[], 10 app/bin list, 11 app/text by, 13 app/text2", api.ErrProof},
		{"app/g.txt:0 by: 6 app/g.src, 7 app/g.o, 8 app/so[], 10 app/bin list, 11 app/text by, 13 app/text2", api.OK},
		{"app/g.txt:0 list: 6 app/g.src, 7 app/g.o, 8 app/so[], 10 app/bin list, 11 app/text by, 13 app/text2", api.ErrProof},
	} {
		expectCheck(t, d, "app/text2", chainOf(x.text), x.want)
	}
}
