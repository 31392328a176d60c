package chain

import (
	"cmp"
	"fmt"
	"math/rand"
	"slices"
	"strconv"
	"strings"
	"testing"

	"licit/api"
	"licit/influence"
	"licit/lineset"
	"licit/origin"
	"licit/sample"
	"licit/tree"
)

// plain looks for chains by the plain words of the definitions, in the flows of a tracer.
type plain struct {
	built   api.Built
	tracer  *origin.Tracer
	hops    map[api.Segment][]api.Hop // by From
	are     map[api.Hop]bool
	writers map[string]int
}

// newPlain follows the build of a distribution.
func newPlain(d api.Distribution) *plain {
	t, _ := origin.New(d)
	p := &plain{t.Built(), t, map[api.Segment][]api.Hop{}, map[api.Hop]bool{}, map[string]int{}}
	for step, done := range p.built.Record {
		p.writers[done.Wrote.Path] = step
		for _, f := range t.Flows(step) {
			h := api.Hop{Step: step, From: f.From, To: f.To, Route: f.Route}
			p.hops[f.From] = append(p.hops[f.From], h)
			p.are[h] = true
		}
	}
	return p
}

// sources returns the lines of all files of the trees, in order.
func (p *plain) sources() []api.Line {
	var l []api.Line
	for _, f := range p.built.Files {
		if _, written := p.writers[f.Path]; written {
			continue
		}
		for n := range strings.Split(f.Data, "\n") {
			l = append(l, at(f.Path, n))
		}
	}
	return l
}

// compareSegments orders segments.
func compareSegments(a, b api.Segment) int {
	return cmp.Or(cmp.Compare(a.Path, b.Path), cmp.Compare(a.Member, b.Member), a.Kind-b.Kind, a.Index-b.Index)
}

// compare orders lists of hops: shorter ones first, and lists of one length by their hops.
func compare(a, b []api.Hop) int {
	return cmp.Or(len(a)-len(b), slices.CompareFunc(a, b, func(x, y api.Hop) int {
		return cmp.Or(x.Step-y.Step, compareSegments(x.From, y.From), compareSegments(x.To, y.To), x.Route-y.Route)
	}))
}

// least returns the least list of hops from a segment to an output, and whether there is one; known keeps what was found.
func (p *plain) least(output string, s api.Segment, known map[api.Segment][]api.Hop) ([]api.Hop, bool) {
	if s.Path == output {
		return nil, true
	}
	if l, found := known[s]; found {
		return l, l != nil
	}
	var best []api.Hop
	for _, h := range p.hops[s] {
		if rest, leads := p.least(output, h.To, known); leads {
			if l := append([]api.Hop{h}, rest...); best == nil || compare(l, best) < 0 {
				best = l
			}
		}
	}
	known[s] = best
	return best, best != nil
}

// every passes all lists of hops from a segment to an output to a function, until it returns false.
func (p *plain) every(output string, s api.Segment, begun []api.Hop, use func(l []api.Hop) bool) bool {
	if s.Path == output {
		return use(slices.Clone(begun))
	}
	for _, h := range p.hops[s] {
		if !p.every(output, h.To, append(begun, h), use) {
			return false
		}
	}
	return true
}

// route returns that of some hops.
func route(l []api.Hop) int {
	has := func(route int) bool {
		return slices.ContainsFunc(l, func(h api.Hop) bool { return h.Route == route })
	}
	switch {
	case has(api.RouteBy):
		return api.RouteBy
	case has(api.RouteList):
		return api.RouteList
	}
	return api.RouteIn
}

// is says whether a chain is one for an output.
func (p *plain) is(output string, c api.Chain) bool {
	if len(c.Hops) == 0 {
		return c.Route == api.RouteRecipe && slices.Contains(lineset.List(p.tracer.Recipes(p.writers[output])), c.Line)
	}
	for i, h := range c.Hops {
		if !p.are[h] || i > 0 && h.From != c.Hops[i-1].To {
			return false
		}
	}
	first := c.Hops[0].From
	_, written := p.writers[first.Path]
	return !written && first.Kind == api.SegmentLine && first.Member == "" && at(first.Path, first.Index) == c.Line &&
		c.Hops[len(c.Hops)-1].To.Path == output && c.Route == route(c.Hops)
}

// recipes returns those of a distribution.
func recipes(d api.Distribution) []string {
	var l []string
	for _, p := range d {
		text, _ := tree.Find(p.Tree, p.Recipe)
		l = append(l, p.Name+":", text)
	}
	return l
}

// distributions calls a function with distributions made at random that install something, and one of their outputs.
func distributions(seed int64, n, steps int, use func(r *rand.Rand, d api.Distribution, p *plain, output string)) {
	r := rand.New(rand.NewSource(seed))
	m := sample.Maker{Intn: r.Intn}
	for range n {
		d := m.Distribution(1+r.Intn(3), steps)
		p := newPlain(d)
		if l := p.built.Installed; len(l) > 0 {
			use(r, d, p, l[r.Intn(len(l))])
		}
	}
}

// P21.1, P21.4: the least chains of all lines of distributions made at random are those of the definitions; there is one just from the lines of the influence, and its route is one of theirs.
func TestByDefinition(t *testing.T) {
	routes, longest := map[int]int{}, 0
	distributions(1, 150, 10, func(r *rand.Rand, d api.Distribution, p *plain, output string) {
		l, e := Each(d, output)
		if e != api.OK {
			t.Fatal(e)
		}
		known := map[api.Segment][]api.Hop{}
		i, _ := influence.Of(d, output)
		n := 0
		for _, x := range p.sources() {
			hops, leads := p.least(output, api.Segment{Path: x.Path, Kind: api.SegmentLine, Index: x.N}, known)
			want := api.Chain{Line: x, Route: route(hops), Hops: hops}
			if !leads {
				want.Route = api.RouteRecipe
			}
			influences := influence.Routes(i, x)
			if !leads && !p.is(output, want) {
				if len(influences) > 0 {
					t.Fatal(x, influences)
				}
				continue
			}
			if n >= len(l) || !equal(l[n], want) || !slices.Contains(influences, want.Route) {
				t.Fatalf("%s %q\n%s", output, recipes(d), show(want))
			}
			routes[want.Route]++
			longest = max(longest, len(hops))
			n++
		}
		lines, _ := influence.Lines(i)
		if n != len(l) || n != lineset.Count(lines) {
			t.Fatal(n, len(l))
		}
	})
	for route := api.RouteIn; route <= api.RouteRecipe; route++ {
		// programs that use a library, and are installed, are rare
		if routes[route] < 100 && (route != api.RouteList || routes[route] < 10) {
			t.Error(route, routes[route])
		}
	}
	if longest < 6 {
		t.Error(longest)
	}
}

// P21.1: Find returns what Each does, and nothing for other lines of files.
func TestFindAndEach(t *testing.T) {
	distributions(2, 25, 7, func(r *rand.Rand, d api.Distribution, p *plain, output string) {
		l, _ := Each(d, output)
		for _, c := range l {
			if r.Intn(4) > 0 {
				continue
			}
			if x, e := Find(d, output, c.Line); e != api.OK || !equal(x, c) {
				t.Fatal(output, recipes(d), c.Line, e)
			}
		}
		for range 10 {
			f := p.built.Files[r.Intn(len(p.built.Files))]
			x := at(f.Path, r.Intn(3+strings.Count(f.Data, "\n")))
			leads := slices.ContainsFunc(l, func(c api.Chain) bool { return c.Line == x })
			if c, e := Find(d, output, x); leads != (e == api.OK) || !leads && (e != api.ErrUnknown || !equal(c, api.Chain{})) {
				t.Fatal(output, recipes(d), x, e)
			}
		}
	})
}

// P21.1, P21.2, P21.4: of all chains from a line the first one is the least one, no one is shorter, all are accepted, and the route of each is one on which the line influences the output.
func TestAllChains(t *testing.T) {
	several, longer := 0, 0
	distributions(3, 80, 7, func(r *rand.Rand, d api.Distribution, p *plain, output string) {
		sources := p.sources()
		i, _ := influence.Of(d, output)
		for range 4 {
			x := sources[r.Intn(len(sources))]
			var all [][]api.Hop
			complete := p.every(output, segmentOf(x), nil, func(l []api.Hop) bool {
				all = append(all, l)
				return len(all) < 3000
			})
			if !complete || len(all) == 0 {
				continue
			}
			c, e := Find(d, output, x)
			if e != api.OK || !slices.Equal(c.Hops, slices.MinFunc(all, compare)) {
				t.Fatal(output, recipes(d), show(c))
			}
			for _, hops := range [][]api.Hop{all[r.Intn(len(all))], slices.MaxFunc(all, compare)} {
				y := api.Chain{Line: x, Route: route(hops), Hops: hops}
				expectCheck(t, d, output, y, api.OK)
				if len(hops) < len(c.Hops) || !slices.Contains(influence.Routes(i, x), y.Route) {
					t.Fatal(output, recipes(d), show(y))
				}
				if len(hops) > len(c.Hops) {
					longer++
				}
			}
			if len(all) > 1 {
				several++
			}
		}
	})
	if several < 20 || longer == 0 {
		t.Error(several, longer)
	}
}

// spoil changes a chain in one place, or in a few.
func spoil(r *rand.Rand, p *plain, c api.Chain) api.Chain {
	c.Hops = slices.Clone(c.Hops)
	sources := p.sources()
	for range 1 + r.Intn(2) {
		if len(c.Hops) == 0 || r.Intn(8) == 0 {
			c.Route = r.Intn(6)
			c.Line = sources[r.Intn(len(sources))]
			continue
		}
		i := r.Intn(len(c.Hops))
		h := &c.Hops[i]
		switch r.Intn(6) {
		case 0:
			// another flow from the same segment, mostly to another place of the same file
			l := p.hops[h.From]
			if len(l) > 0 {
				*h = l[r.Intn(len(l))]
			}
			c.Route = route(c.Hops)
		case 1:
			c.Hops = slices.Delete(c.Hops, i, i+1)
		case 2:
			c.Route = 1 + r.Intn(4)
		case 3:
			h.Route = 1 + r.Intn(3)
			c.Route = route(c.Hops)
		case 4:
			h.Step += r.Intn(3) - 1
		case 5:
			// the whole rest again, on any way
			c.Hops = c.Hops[:i+1]
			for s := c.Hops[i].To; len(p.hops[s]) > 0 && r.Intn(5) > 0; s = c.Hops[len(c.Hops)-1].To {
				c.Hops = append(c.Hops, p.hops[s][r.Intn(len(p.hops[s]))])
			}
			c.Route = route(c.Hops)
		}
	}
	return c
}

// P21.2, P21.4: chains that were changed at random are accepted just if they are chains by the definition; no line without influence has one, and each accepted one that has hops is at least as long as the least one.
func TestCheckByDefinition(t *testing.T) {
	accepted, refused := 0, 0
	distributions(4, 60, 7, func(r *rand.Rand, d api.Distribution, p *plain, output string) {
		l, _ := Each(d, output)
		for range 12 {
			c := spoil(r, p, l[r.Intn(len(l))])
			target := p.built.Installed[r.Intn(len(p.built.Installed))]
			if r.Intn(5) > 0 {
				target = output
			}
			if !p.is(target, c) {
				refused++
				expectCheck(t, d, target, c, api.ErrProof)
				continue
			}
			accepted++
			expectCheck(t, d, target, c, api.OK)
			least, e := Find(d, target, c.Line)
			if e != api.OK || len(c.Hops) > 0 && len(c.Hops) < len(least.Hops) {
				t.Fatal(target, recipes(d), show(c), e)
			}
		}
	})
	if accepted < 30 || refused < 100 {
		t.Error(accepted, refused)
	}
}

// P21.3: the texts of chains made at random, and of any flows one behind the other.
func TestExplainByDefinition(t *testing.T) {
	steps, routes, kinds := map[string]int{}, map[string]int{}, map[string]int{}
	distributions(5, 60, 7, func(r *rand.Rand, d api.Distribution, p *plain, output string) {
		sources := p.sources()
		c := api.Chain{Line: sources[r.Intn(len(sources))], Route: r.Intn(5)}
		want := fmt.Sprintf("%s line %d\n", c.Line.Path, c.Line.N)
		for range 30 {
			step := r.Intn(len(p.built.Record))
			flows := p.tracer.Flows(step)
			f := flows[r.Intn(len(flows))]
			c.Hops = append(c.Hops, api.Hop{Step: step, From: f.From, To: f.To, Route: f.Route})
			kind := strings.Fields("compile archive share link run patch copy install")[p.built.Record[step].Kind-1]
			way := strings.Fields("in by list")[f.Route-1]
			to := strings.Fields("file line section list")[f.To.Kind-1]
			steps[kind]++
			routes[way]++
			kinds[to]++
			if f.To.Kind == api.SegmentLine || f.To.Kind == api.SegmentSection {
				to += " " + strconv.Itoa(f.To.Index)
			}
			path := f.To.Path
			if f.To.Member != "" {
				path += "!" + f.To.Member
			}
			want += strings.Join([]string{"step", strconv.Itoa(step), kind, way, path, to}, " ") + "\n"
		}
		if text, e := Explain(d, c); e != api.OK || text != want {
			t.Fatalf("%d\n%s\n%s", e, text, want)
		}
		// one wrong hop is enough
		c.Hops[r.Intn(len(c.Hops))].Step += 1 + r.Intn(3)
		right := true
		for _, h := range c.Hops {
			right = right && p.are[h]
		}
		if text, e := Explain(d, c); right != (e == api.OK) || !right && (e != api.ErrProof || text != "") {
			t.Fatal(text, e)
		}
	})
	if len(steps) != 8 || len(routes) != 3 || len(kinds) != 4 {
		t.Error(steps, routes, kinds)
	}
}
