package chain

import (
	"math"
	"slices"
	"strings"
	"testing"

	"licit/api"
	"licit/sample"
)

// altered returns a chain whose hops are a changed copy of those of another one.
func altered(c api.Chain, change func(l []api.Hop) []api.Hop) api.Chain {
	c.Hops = change(slices.Clone(c.Hops))
	return c
}

// P21.2: chains with one hop left out, added, exchanged or put in another place.
func TestAlteredHops(t *testing.T) {
	d := sample.Factory()
	outputs := []string{"app/out/bin", "app/out/text", "app/out/l.a", "app/out/m.o", "lib/out/g.so"}
	n := 0
	for _, output := range outputs {
		l, _ := Each(d, output)
		for _, c := range l {
			if len(c.Hops) == 0 || n%3 > 0 && c.Line.Path == "app/f.txt" {
				continue
			}
			n++
			for i := range c.Hops {
				for _, change := range []func(l []api.Hop) []api.Hop{
					func(l []api.Hop) []api.Hop { return slices.Delete(l, i, i+1) },
					func(l []api.Hop) []api.Hop { return slices.Insert(l, i, l[i]) },
					func(l []api.Hop) []api.Hop { return l[:i] },
					func(l []api.Hop) []api.Hop { next := (i + 1) % len(l); l[i], l[next] = l[next], l[i]; return l },
					func(l []api.Hop) []api.Hop { l[i].Step = -1; return l },
					func(l []api.Hop) []api.Hop { l[i].Step++; return l },
					func(l []api.Hop) []api.Hop { l[i].Step = math.MaxInt; return l },
					func(l []api.Hop) []api.Hop { l[i].Route++; return l },
					func(l []api.Hop) []api.Hop { l[i].Route = 0; return l },
					func(l []api.Hop) []api.Hop { l[i].From.Index++; return l },
					func(l []api.Hop) []api.Hop { l[i].From.Kind++; return l },
					func(l []api.Hop) []api.Hop { l[i].To.Member += "x"; return l },
					func(l []api.Hop) []api.Hop { l[i].To.Path = c.Line.Path; return l },
					func(l []api.Hop) []api.Hop { l[i] = api.Hop{}; return l },
				} {
					expectCheck(t, d, output, altered(c, change), api.ErrProof)
				}
			}
		}
	}
	if n < 20 {
		t.Error(n)
	}
}

// P21.2: chains with another line, another route, or for another output.
func TestAlteredEnds(t *testing.T) {
	d := sample.Factory()
	for _, x := range []struct{ output, text string }{
		{"app/out/bin", "lib/g.src:2 list: 3 lib/g.o, 4 lib/g.so[], 5 lib/out/g.so[], 10 app/bin list, 12 app/out/bin"},
		{"app/out/text", "app/in:0 in: 11 app/text, 15 app/out/text"},
		{"app/out/text", "app/m.src:2 by: 8 app/m.o#0, 10 app/bin#0, 11 app/text by, 15 app/out/text"},
		{"lib/out/g.so", "lib/g.src:2 in: 3 lib/g.o, 4 lib/g.so, 5 lib/out/g.so"},
	} {
		c := chainOf(x.text)
		expectCheck(t, d, x.output, c, api.OK)
		for _, line := range []api.Line{{}, at(c.Line.Path, c.Line.N+1), at(c.Line.Path, -1), at("app/x", c.Line.N), at("app/recipe", 0), at("", c.Line.N)} {
			other := c
			other.Line = line
			expectCheck(t, d, x.output, other, api.ErrProof)
		}
		for _, route := range []int{-1, 0, 1, 2, 3, 4, 5} {
			if other := c; route != c.Route {
				other.Route = route
				expectCheck(t, d, x.output, other, api.ErrProof)
			}
		}
		for _, output := range []string{"app/out/bin", "app/out/text", "app/out/in", "lib/out/g.so"} {
			if output != x.output {
				expectCheck(t, d, output, c, api.ErrProof)
			}
		}
	}
	// one hop more leads to another output
	list := "lib/g.src:2 in: 3 lib/g.o, 4 lib/g.so[], 5 lib/out/g.so[]"
	expectCheck(t, d, "lib/out/g.so", chainOf(list), api.OK)
	longer := chainOf(strings.Replace(list, " in:", " list:", 1) + ", 10 app/bin list, 12 app/out/bin")
	expectCheck(t, d, "lib/out/g.so", longer, api.ErrProof)
	expectCheck(t, d, "app/out/bin", longer, api.OK)
}

// P21.1, P21.2: chains begin at lines of files that no step has written, not at other lines, nor at a file as a whole.
func TestBeginnings(t *testing.T) {
	d := sample.Example()
	for _, x := range []struct {
		text string
		want api.Errno
	}{
		{"app/x:0 in: 0 app/y:0, 1 app/z:0", api.OK},
		{"app/y:0 in: 1 app/z:0", api.ErrProof},
		{"app/z:0 in:", api.ErrProof},
		{"app/x:1 in: 0 app/y:1, 1 app/z:1", api.ErrProof},
	} {
		expectCheck(t, d, "app/z", chainOf(x.text), x.want)
	}
	whole := chainOf("app/x:0 in: 0 app/y:0, 1 app/z:0")
	whole.Hops[0].From, whole.Hops[0].To = segment("app/x"), segment("app/y")
	whole.Hops[1].From, whole.Hops[1].To = segment("app/y"), segment("app/z")
	// both hops are flows
	if text, e := Explain(d, whole); e != api.OK || text != "app/x line 0\nstep 0 patch in app/y file\nstep 1 install in app/z file\n" {
		t.Error(text, e)
	}
	expectCheck(t, d, "app/z", whole, api.ErrProof)
	for _, x := range []api.Line{at("app/y", 0), at("app/y", 1), at("app/z", 0), at("app/x", 1), at("app/x", 2), at("app/x", -1), at("app/none", 0), at("", 0), at("app", 0), at("app/recipe", 2), {Path: "app/x", N: math.MaxInt}, {Path: "app/p", N: math.MinInt}} {
		if c, e := Find(d, "app/z", x); e != api.ErrUnknown || !equal(c, api.Chain{}) {
			t.Error(x, c, e)
		}
	}
}

// P21.1 to P21.3: the first error of each function: that of the build, then of the output, then of the line or the chain.
func TestErrors(t *testing.T) {
	good := chainOf("app/x:0 in: 0 app/y:0, 1 app/z:0")
	bad := chainOf("app/x:1 in: 0 app/y:0, 1 app/z:0")
	try := func(d api.Distribution, output string, find, each, check, explain api.Errno, c api.Chain) {
		t.Helper()
		if c, e := Find(d, output, c.Line); e != find || !equal(c, api.Chain{}) {
			t.Error("Find", output, c, e)
		}
		if l, e := Each(d, output); e != each || e != api.OK && l != nil {
			t.Error("Each", output, l, e)
		}
		expectCheck(t, d, output, c, check)
		if text, e := Explain(d, c); e != explain || e != api.OK && text != "" {
			t.Error("Explain", output, text, e)
		}
	}
	for _, x := range []struct {
		d    api.Distribution
		want api.Errno
	}{
		{append(sample.Example(), sample.Example()...), api.ErrTwice},
		{api.Distribution{sample.Example()[0], pack("b", []string{"copy x to z"})}, api.ErrNotFound},
		{api.Distribution{sample.Example()[0], pack("b", []string{"install recipe as z", "nothing"})}, api.ErrSyntax},
		{api.Distribution{{Name: "A"}}, api.ErrName},
		{api.Distribution{sample.Example()[0], pack("b", []string{"patch recipe with recipe to x"})}, api.ErrSyntax},
		{make(api.Distribution, api.MaxPackages+1), api.ErrTooLarge},
	} {
		for _, output := range []string{"app/z", "b/z", "none", ""} {
			for _, c := range []api.Chain{good, bad, {}} {
				try(x.d, output, x.want, x.want, x.want, x.want, c)
			}
		}
	}
	// files that are not installed, and paths of no file
	for _, output := range []string{"", "app", "app/", "app/y", "app/x", "app/recipe", "z", "@app/z", "b/z", "APP/z", "app/z\n"} {
		try(sample.Example(), output, api.ErrNotFound, api.ErrNotFound, api.ErrNotFound, api.OK, good)
		wrong := good
		wrong.Hops = append(slices.Clone(good.Hops), api.Hop{})
		try(sample.Example(), output, api.ErrNotFound, api.ErrNotFound, api.ErrNotFound, api.ErrProof, wrong)
	}
	try(nil, "app/z", api.ErrNotFound, api.ErrNotFound, api.ErrNotFound, api.OK, api.Chain{})
	try(sample.Example(), "app/z", api.ErrUnknown, api.OK, api.ErrProof, api.ErrProof, chainOf("app/x:1 in: 0 app/y:1, 1 app/z:1"))
	try(sample.Example(), "app/z", api.ErrUnknown, api.OK, api.ErrProof, api.OK, api.Chain{})
}
