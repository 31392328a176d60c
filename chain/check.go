package chain

import (
	"slices"

	"licit/api"
	"licit/lineset"
	"licit/trace"
)

// accepts says whether a chain is one for the goal, hop by hop, whether it is the least one or not.
func (g *goal) accepts(c api.Chain) bool {
	if len(c.Hops) == 0 {
		return c.Route == api.RouteRecipe && lineset.Has(g.trace.Recipes(g.step), c.Line)
	}
	at := segmentOf(c.Line)
	for _, h := range c.Hops {
		if h.From != at {
			return false
		}
		at = h.To
	}
	return g.isSource(c.Line.Path) && at.Path == g.output && c.Route == routeOf(c.Hops) && allFlow(&g.trace, c.Hops)
}

// allFlow says whether each of some hops is a flow of its step, whether they fit together or not. Each step is followed once.
func allFlow(t *trace.Trace, hops []api.Hop) bool {
	known := map[int]flows{}
	for _, h := range hops {
		x, followed := known[h.Step]
		if !followed {
			x = flowsOf(t.Streams(h.Step))
			known[h.Step] = x
		}
		if !x.has(h) {
			return false
		}
	}
	return true
}

// flows are those of a step: the streams that lead to each segment, and the sources of each stream.
type flows struct {
	streams map[api.Segment][]int
	sources []map[trace.Source]bool
}

// flowsOf returns the flows of streams.
func flowsOf(l []trace.Stream) flows {
	x := flows{streams: map[api.Segment][]int{}}
	for i, s := range l {
		for _, to := range s.To {
			x.streams[to] = append(x.streams[to], i)
		}
		sources := map[trace.Source]bool{}
		for _, from := range s.From {
			sources[from] = true
		}
		x.sources = append(x.sources, sources)
	}
	return x
}

// has says whether a hop is one of the flows.
func (x flows) has(h api.Hop) bool {
	return slices.ContainsFunc(x.streams[h.To], func(i int) bool {
		return x.sources[i][trace.Source{From: h.From, Route: h.Route}]
	})
}
