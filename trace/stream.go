package trace

import (
	"licit/api"
	"licit/compile"
	"licit/lineset"
	"licit/link"
	"licit/linkage"
	"licit/object"
	"licit/patch"
)

// Source is a segment that something comes from, and the route on which it does.
type Source struct {
	From  api.Segment
	Route int
}

// Stream says that each of the segments To comes from each of the sources From. Streams are what makes long texts bearable: a run has as many flows as there are lines of its output, multiplied with those of its input, but one stream.
type Stream struct {
	To   []api.Segment
	From []Source
}

// intake is what something comes from: what was read, each segment once on a route.
type intake struct {
	seen map[Source]bool
	list []Source
}

// take adds segments that were read.
func (in *intake) take(route int, segments []api.Segment) {
	if in.seen == nil {
		in.seen = map[Source]bool{}
	}
	for _, s := range segments {
		from := Source{s, route}
		if !in.seen[from] {
			in.seen[from] = true
			in.list = append(in.list, from)
		}
	}
}

// directly returns a stream to one segment, which comes directly from segments that were read.
func directly(to api.Segment, reads ...[]api.Segment) Stream {
	var in intake
	for _, l := range reads {
		in.take(api.RouteIn, l)
	}
	return Stream{[]api.Segment{to}, in.list}
}

// Streams returns the streams of a step, which lead to each segment that it has written; nothing, if there is no such step.
func (t *Trace) Streams(i int) []Stream {
	s := t.step(i)
	switch s.kind {
	case api.StepCompile:
		return t.compile(s)
	case api.StepArchive:
		return t.archive(s)
	case api.StepShare:
		return t.share(s)
	case api.StepLink:
		return t.link(s)
	case api.StepRun:
		return t.run(s)
	case api.StepPatch:
		return t.patch(s)
	case api.StepCopy, api.StepInstall:
		return t.copy(s)
	}
	return nil
}

// compile returns the streams of a compilation. Its files that were read are all that it needs, so it is done again with them.
func (t *Trace) compile(s step) []Stream {
	_, reading, _ := compile.Unit(s.reads, s.in[0].Path, s.words)
	var common intake
	for _, path := range reading.Files {
		common.take(api.RouteIn, t.endOf(path))
	}
	t.takeLines(&common, reading.Heads)
	l := []Stream{{t.Segments(s.out), common.list}}
	for n, lines := range reading.Sections {
		var own intake
		t.takeLines(&own, lines)
		l = append(l, Stream{[]api.Segment{section(s.out, "", n)}, own.list})
	}
	return l
}

// takeLines adds the reads of some lines.
func (t *Trace) takeLines(in *intake, lines api.Lines) {
	for _, x := range lineset.List(lines) {
		in.take(api.RouteIn, t.lineOf(x.Path, x.N))
	}
}

// archive returns the streams of an archive, whose members have the paths of their objects as names.
func (t *Trace) archive(s step) []Stream {
	var l []Stream
	for _, to := range t.Segments(s.out) {
		p := part{path: to.Member}
		read := t.headsOf(p)
		if to.Kind == api.SegmentSection {
			read = t.sectionOf(p, to.Index)
		}
		l = append(l, directly(to, read))
	}
	return l
}

// share returns the streams of a shared library.
func (t *Trace) share(s step) []Stream {
	objects, _ := linkage.Objects(s.in)
	b, read, _ := link.Share(objects)
	parts := partsOf(objects, nil)
	return t.place(s.out, b, parts, t.tables(parts, read))
}

// link returns the streams of a program.
func (t *Trace) link(s step) []Stream {
	objects, _ := linkage.Objects(s.in)
	shelves, libs, _ := linkage.Using(s.using)
	b, read, _ := link.Link(s.words[0], objects, shelves, libs)
	parts := partsOf(objects, shelves)
	common := t.tables(parts, read)
	for _, f := range s.using {
		if kind := t.kinds[f.Path]; kind != api.ArtifactArchive && kind != api.ArtifactLibrary {
			common.take(api.RouteIn, t.Segments(f.Path))
		}
	}
	for _, path := range read.Lists {
		common.take(api.RouteList, t.listOf(path))
	}
	return t.place(s.out, b, parts, common)
}

// partsOf returns the objects of a link by the names that they have in a binary.
func partsOf(objects []api.Member, shelves []api.Shelf) map[string]part {
	parts := map[string]part{}
	for _, m := range objects {
		parts[m.Name] = part{m.Name, "", m.Object}
	}
	for _, s := range shelves {
		for _, m := range s.Members {
			parts[s.Path+"!"+m.Name] = part{s.Path, m.Name, m.Object}
		}
	}
	return parts
}

// tables returns the reads of the symbol tables that a link has read.
func (t *Trace) tables(parts map[string]part, read api.LinkReading) intake {
	var in intake
	for _, name := range read.Tables {
		in.take(api.RouteIn, t.headsOf(parts[name]))
	}
	return in
}

// place returns the streams of a file that was linked, given what all of it comes from.
func (t *Trace) place(out string, b api.Binary, parts map[string]part, common intake) []Stream {
	l := []Stream{{t.Segments(out), common.list}}
	for n, place := range b.Places {
		p := parts[place.Object]
		symbol, _ := object.Find(p.object, place.Symbol)
		l = append(l, directly(section(out, "", n), t.sectionOf(p, symbol.Section)))
	}
	return l
}

// run returns the stream of a run: nothing is known of what a program does with its input.
func (t *Trace) run(s step) []Stream {
	program, input := s.in[0], s.in[1]
	var in intake
	in.take(api.RouteBy, t.Segments(program.Path))
	for _, f := range s.using {
		in.take(api.RouteBy, t.Segments(f.Path))
	}
	in.take(api.RouteIn, t.Segments(input.Path))
	return []Stream{{t.Segments(s.out), in.list}}
}

// patch returns the streams of a patch: the lines that it adds come from its text, whose other lines decide what the file consists of.
func (t *Trace) patch(s step) []Stream {
	file, text := s.in[0], s.in[1]
	p, _ := patch.Parse(text.Data)
	places, _ := patch.Trace(p, lines(file.Data))
	var l []Stream
	added := map[int]bool{}
	for n, place := range places {
		path, from := file.Path, place.Old
		if place.New >= 0 {
			path, from = text.Path, place.New
			added[from] = true
		}
		l = append(l, directly(line(s.out, n), t.lineOf(path, from)))
	}
	var heads []api.Segment
	for n := range lines(text.Data) {
		if !added[n] {
			heads = append(heads, t.lineOf(text.Path, n)...)
		}
	}
	return append(l, directly(whole(s.out, ""), t.endOf(file.Path), t.endOf(text.Path), heads))
}

// copy returns the streams of a copy, which has the segments of its original.
func (t *Trace) copy(s step) []Stream {
	var l []Stream
	for _, to := range t.Segments(s.out) {
		from := to
		from.Path = s.in[0].Path
		l = append(l, directly(to, []api.Segment{from}))
	}
	return l
}
