package influence

import (
	"licit/api"
	"licit/origin"
	"licit/span"
	"licit/trace"
)

// knowledge is a build, and the origins of all segments of its files. Segments share their origins where they come from the same; those that are not here come from nothing.
type knowledge struct {
	trace   trace.Trace
	sources api.Lines // all lines of the files that no step has written
	origins map[api.Segment]*api.Origin
}

// know builds a distribution, and follows its steps: the fault of the build.
func know(d api.Distribution) (*knowledge, api.Fault) {
	t, f := trace.New(d)
	if f.Error != api.OK {
		return nil, f
	}
	k := &knowledge{trace: t, origins: map[api.Segment]*api.Origin{}}
	for _, p := range d {
		for _, file := range p.Tree {
			k.begin(p.Name + "/" + file.Path)
		}
	}
	for i := range t.Steps() {
		k.follow(i)
	}
	return k, api.Fault{}
}

// begin adds the lines of a file that no step has written. A line behind MaxLines others is left out, since no set can have it.
func (k *knowledge) begin(path string) {
	var spans []api.Span
	for _, s := range k.trace.Segments(path) {
		if s.Kind == api.SegmentLine && s.Index < api.MaxLines {
			x := api.Span{Path: path, From: s.Index, To: s.Index + 1}
			spans = append(spans, x)
			k.origins[s] = &api.Origin{In: api.Lines{x}}
		}
	}
	k.sources = span.Set(append(spans, k.sources...))
}

// follow adds the origins of what a step has written.
func (k *knowledge) follow(step int) {
	for _, s := range k.trace.Streams(step) {
		o := k.join(s.From)
		for _, to := range s.To {
			// an earlier stream of the step may lead to the same segment
			if before, found := k.origins[to]; found {
				both, _ := origin.Union(*before, *o)
				k.origins[to] = &both
			} else {
				k.origins[to] = o
			}
		}
	}
}

// passage is an origin on a route.
type passage struct {
	origin *api.Origin
	route  int
}

// passages returns the origins of sources with their routes, each once: all segments of a long text may have one origin.
func (k *knowledge) passages(from []trace.Source) []passage {
	seen := map[passage]bool{}
	var l []passage
	for _, s := range from {
		p := passage{k.origins[s.From], s.Route}
		if p.origin != nil && !seen[p] {
			seen[p] = true
			l = append(l, p)
		}
	}
	return l
}

// join returns the union of what the origins of sources become on their routes, which may be one of these origins itself.
func (k *knowledge) join(from []trace.Source) *api.Origin {
	l := k.passages(from)
	if len(l) == 1 && l[0].route == api.RouteIn {
		return l[0].origin
	}
	o := unite(l)
	return &o
}

// unite returns the union of what origins become on their routes, as new memory.
func unite(l []passage) api.Origin {
	var in, by, list []api.Span
	for _, p := range l {
		o, _ := origin.Through(*p.origin, p.route)
		in, by, list = append(in, o.In...), append(by, o.By...), append(list, o.List...)
	}
	return api.Origin{In: span.Set(in), By: span.Set(by), List: span.Set(list)}
}

// origin returns the union of the origins of some segments, as new memory.
func (k *knowledge) origin(segments ...api.Segment) api.Origin {
	var from []trace.Source
	for _, s := range segments {
		from = append(from, trace.Source{From: s, Route: api.RouteIn})
	}
	return unite(k.passages(from))
}

// influences returns those of all installed files.
func (k *knowledge) influences() []api.Influence {
	var l []api.Influence
	for _, output := range k.trace.Built().Installed {
		l = append(l, k.influence(output))
	}
	return l
}

// influence returns that of an installed file.
func (k *knowledge) influence(output string) api.Influence {
	// what is installed was written by a step
	step, _ := k.trace.Writer(output)
	return api.Influence{
		Output:   output,
		Whole:    k.origin(k.trace.Segments(output)...),
		Recipes:  k.trace.Recipes(step),
		Sections: k.sections(output),
	}
}

// sections returns the influences of the sections of an output, if it is a library or a binary.
func (k *knowledge) sections(output string) []api.SectionInfluence {
	var l []api.SectionInfluence
	layout := k.origin(api.Segment{Path: output, Kind: api.SegmentFile})
	for n, place := range k.trace.Places(output) {
		content := k.origin(api.Segment{Path: output, Kind: api.SegmentSection, Index: n})
		l = append(l, api.SectionInfluence{Object: place.Object, Symbol: place.Symbol, Content: content, Layout: layout})
		layout, _ = origin.Union(layout, content)
	}
	return l
}
