package chain

import (
	"cmp"

	"licit/api"
	"licit/lineset"
	"licit/trace"
)

// guide knows the least chains from all segments to a goal, and the lines from which there is one without hops.
type guide struct {
	goal    *goal
	best    map[api.Segment]way
	recipes map[api.Line]bool
}

// way is the least chain from a segment: its first hop, and how many hops it has. The rest is the least chain from the end of the hop; the segments of the output are already there, with no hops.
type way struct {
	hop  api.Hop
	hops int
}

// guide finds the least chains from all segments at once. The steps are gone through from the output back to the sources, since the best first hop depends on how far it is from its end.
func (g *goal) guide() *guide {
	x := &guide{g, map[api.Segment]way{}, map[api.Line]bool{}}
	for _, line := range lineset.List(g.trace.Recipes(g.step)) {
		x.recipes[line] = true
	}
	for _, s := range g.trace.Segments(g.output) {
		x.best[s] = way{}
	}
	for step := g.step; step >= 0; step-- {
		x.follow(step)
	}
	return x
}

// follow adds the chains that begin with a hop of a step. Nothing that the step writes is read by an earlier one, so the chains from there are known.
func (x *guide) follow(step int) {
	compare := func(a, b api.Hop) int {
		return cmp.Or(
			cmp.Compare(a.Step, b.Step),
			trace.Compare(a.From, b.From),
			trace.Compare(a.To, b.To),
			cmp.Compare(a.Route, b.Route),
		)
	}
	for _, s := range x.goal.trace.Streams(step) {
		to, found := x.nearest(s.To)
		if !found {
			continue
		}
		for _, from := range s.From {
			next := way{api.Hop{Step: step, From: from.From, To: to, Route: from.Route}, x.best[to].hops + 1}
			old, found := x.best[from.From]
			if !found || cmp.Or(cmp.Compare(next.hops, old.hops), compare(next.hop, old.hop)) < 0 {
				x.best[from.From] = next
			}
		}
	}
}

// nearest returns the first one of those segments from which the fewest hops lead to the goal, and whether there is one.
func (x *guide) nearest(segments []api.Segment) (api.Segment, bool) {
	var nearest api.Segment
	found := false
	for _, s := range segments {
		w, leads := x.best[s]
		if leads && (!found || cmp.Or(cmp.Compare(w.hops, x.best[nearest].hops), trace.Compare(s, nearest)) < 0) {
			nearest, found = s, true
		}
	}
	return nearest, found
}

// chain returns the least chain from a line, and whether there is one: without hops only if there is no other one.
func (x *guide) chain(line api.Line) (api.Chain, bool) {
	at := segmentOf(line)
	if _, leads := x.best[at]; leads && x.goal.isSource(line.Path) {
		var hops []api.Hop
		for w := x.best[at]; w.hops > 0; w = x.best[w.hop.To] {
			hops = append(hops, w.hop)
		}
		return api.Chain{Line: line, Route: routeOf(hops), Hops: hops}, true
	}
	if x.recipes[line] {
		return api.Chain{Line: line, Route: api.RouteRecipe}, true
	}
	return api.Chain{}, false
}
