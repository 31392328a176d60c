package chain

import (
	"math"
	"testing"

	"licit/api"
	"licit/sample"
)

// expectText compares the text of a chain.
func expectText(t *testing.T, d api.Distribution, c api.Chain, want ...string) {
	t.Helper()
	text, e := Explain(d, c)
	if e != api.OK || text != lines(append(want, "")...) {
		t.Errorf("%d\n%s\n%s", e, text, lines(want...))
	}
}

// P21.3: texts with each kind of step, each route, and each kind of segment, with members and without.
func TestExplain(t *testing.T) {
	d := sample.Factory()
	expectText(t, d, chainOf("lib/gen.src:5 by: 0 lib/gen.o#0, 1 lib/gen#0, 2 lib/out/gen#0, 6 app/f.src:1 by, 7 app/f.o#1, 9 app/l.a!app/f.o#1, 13 app/out/l.a!app/f.o#1"),
		"lib/gen.src line 5",
		"step 0 compile in lib/gen.o section 0",
		"step 1 link in lib/gen section 0",
		"step 2 install in lib/out/gen section 0",
		"step 6 run by app/f.src line 1",
		"step 7 compile in app/f.o section 1",
		"step 9 archive in app/l.a!app/f.o section 1",
		"step 13 install in app/out/l.a!app/f.o section 1")
	expectText(t, d, chainOf("lib/g.src:2 list: 3 lib/g.o, 4 lib/g.so[], 5 lib/out/g.so[], 10 app/bin#1 list, 12 app/out/bin#1"),
		"lib/g.src line 2",
		"step 3 compile in lib/g.o file",
		"step 4 share in lib/g.so list",
		"step 5 install in lib/out/g.so list",
		"step 10 link list app/bin section 1",
		"step 12 install in app/out/bin section 1")
	expectText(t, d, chainOf("app/m.src:0 in: 8 app/m.o, 9 app/l.a!app/m.o, 13 app/out/l.a!app/m.o"),
		"app/m.src line 0",
		"step 8 compile in app/m.o file",
		"step 9 archive in app/l.a!app/m.o file",
		"step 13 install in app/out/l.a!app/m.o file")
	d = api.Distribution{pack("a", []string{"copy x to y", "patch x with y to z"}, "x", lines("keep 2", "add 9", "3", "4", "5", "6", "7", "8", "9", "10", "11"))}
	d[0].Tree[1].Data = lines("keep 11", "add 9", "3", "4", "5", "6", "7", "8", "9", "10", "11")
	expectText(t, d, chainOf("a/x:10 in: 0 a/y:10, 1 a/z:19"), "a/x line 10", "step 0 copy in a/y line 10", "step 1 patch in a/z line 19")
	expectText(t, d, chainOf("a/x:0 in: 0 a/y:0, 1 a/z"), "a/x line 0", "step 0 copy in a/y line 0", "step 1 patch in a/z file")
}

// P21.3: hops may be in any order, and what the chain says of its line and its route does not matter; without hops any line is one of a recipe.
func TestExplainAnything(t *testing.T) {
	d := sample.Example()
	c := chainOf("app/p:3 in: 0 app/y:1, 1 app/z:1")
	c.Hops[0], c.Hops[1] = c.Hops[1], c.Hops[0]
	c.Hops = append(c.Hops, c.Hops...)
	c.Line, c.Route = at("app/x", 1), api.RouteRecipe
	first, second := "step 1 install in app/z line 1", "step 0 patch in app/y line 1"
	expectText(t, d, c, "app/x line 1", first, second, first, second)
	for _, route := range []int{api.RouteRecipe, api.RouteIn, 0, -1, math.MaxInt} {
		expectText(t, d, api.Chain{Line: at("app/recipe", 0), Route: route}, "app/recipe line 0", "recipe")
		expectText(t, nil, api.Chain{Line: at("", -7), Route: route}, " line -7", "recipe")
		expectText(t, d, api.Chain{Line: at("A B!\n", math.MaxInt), Route: route, Hops: []api.Hop{}}, "A B!\n line 9223372036854775807", "recipe")
	}
	c = chainOf("app/p:3 in: 0 app/y:1")
	expectText(t, d, c, "app/p line 3", second)
	for _, h := range []api.Hop{
		{},
		{Step: 1, From: c.Hops[0].From, To: c.Hops[0].To, Route: api.RouteIn},
		{Step: -1, From: c.Hops[0].From, To: c.Hops[0].To, Route: api.RouteIn},
		{Step: math.MinInt, From: c.Hops[0].From, To: c.Hops[0].To, Route: api.RouteIn},
		{Step: 2, From: c.Hops[0].From, To: c.Hops[0].To, Route: api.RouteIn},
		{From: c.Hops[0].To, To: c.Hops[0].From, Route: api.RouteIn},
		{From: c.Hops[0].From, To: c.Hops[0].To, Route: api.RouteBy},
		{From: c.Hops[0].From, To: c.Hops[0].To, Route: api.RouteRecipe},
		{From: c.Hops[0].From, To: c.Hops[0].To},
		{From: segment("app/p:2"), To: c.Hops[0].To, Route: api.RouteIn},
		{From: c.Hops[0].From, To: segment("app/y:0"), Route: api.RouteIn},
		{From: c.Hops[0].From, To: segment("app/y"), Route: api.RouteIn},
		{From: c.Hops[0].From, To: segment("app/y!app/y:1"), Route: api.RouteIn},
	} {
		for _, hops := range [][]api.Hop{{h}, {c.Hops[0], h}, {h, c.Hops[0]}} {
			c := c
			c.Hops = hops
			if text, e := Explain(d, c); e != api.ErrProof || text != "" {
				t.Error(h, text, e)
			}
		}
	}
	if text, e := Explain(nil, c); e != api.ErrProof || text != "" {
		t.Error(text, e)
	}
}
