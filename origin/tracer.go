package origin

import (
	"cmp"
	"maps"
	"slices"

	"licit/api"
	"licit/trace"
)

// Tracer knows a build, and what comes from what in it. The zero value, and nil, are that of a build without files and steps.
type Tracer struct{ trace trace.Trace }

// New returns the tracer of the build of a distribution: the fault of the build.
func New(d api.Distribution) (*Tracer, api.Fault) {
	t, f := trace.New(d)
	if f.Error != api.OK {
		return nil, f
	}
	return &Tracer{t}, api.Fault{}
}

// known returns the build that a tracer knows.
func (t *Tracer) known() *trace.Trace {
	if t == nil {
		return &trace.Trace{}
	}
	return &t.trace
}

// Built returns the result of the build.
func (t *Tracer) Built() api.Built { return t.known().Built() }

// Artifact returns the kind of the artifact at a path, 0 if there is none.
func (t *Tracer) Artifact(path string) int { return t.known().Kind(path) }

// Segments returns the segments of the artifact at a path; nothing, if there is none.
func (t *Tracer) Segments(path string) []api.Segment { return t.known().Segments(path) }

// Recipes returns the lines of the recipes that count for what a step writes; nothing, if there is no such step.
func (t *Tracer) Recipes(step int) api.Lines { return t.known().Recipes(step) }

// Flows returns what the segments that a step writes come from; nothing, if there is no such step.
func (t *Tracer) Flows(step int) []api.Flow {
	k := t.known()
	streams := map[api.Segment][]trace.Stream{}
	for _, s := range k.Streams(step) {
		for _, to := range s.To {
			streams[to] = append(streams[to], s)
		}
	}
	var flows []api.Flow
	for _, to := range k.Segments(k.Out(step)) {
		flows = append(flows, flowsTo(to, streams[to])...)
	}
	return flows
}

// flowsTo returns the flows of some streams to a segment, in order, each once.
func flowsTo(to api.Segment, streams []trace.Stream) []api.Flow {
	flows := map[api.Flow]bool{}
	for _, s := range streams {
		for _, x := range s.From {
			flows[api.Flow{To: to, From: x.From, Route: x.Route}] = true
		}
	}
	return slices.SortedFunc(maps.Keys(flows), func(a, b api.Flow) int {
		return cmp.Or(trace.Compare(a.From, b.From), cmp.Compare(a.Route, b.Route))
	})
}
