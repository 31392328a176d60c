package origin

import (
	"cmp"
	"math/rand"
	"slices"
	"strings"
	"testing"

	"licit/api"
	"licit/binary"
	"licit/build"
	"licit/compile"
	"licit/link"
	"licit/object"
	"licit/patch"
	"licit/recipe"
	"licit/sample"
	"licit/source"
	"licit/tree"
)

// plain follows a build by the plain words of the definitions.
type plain struct {
	d       api.Distribution
	built   api.Built
	sandbox *build.Sandbox
	flows   map[api.Flow]bool // of the step that is followed
}

// writer returns the record of the step that wrote a path.
func (p *plain) writer(path string) (api.Done, bool) {
	for _, d := range p.built.Record {
		if d.Wrote.Path == path {
			return d, true
		}
	}
	return api.Done{}, false
}

// kind is that of the artifact at a path.
func (p *plain) kind(path string) int {
	d, written := p.writer(path)
	switch {
	case written && (d.Kind == api.StepCopy || d.Kind == api.StepInstall):
		return p.kind(d.Reads[0].Path)
	case written && d.Kind == api.StepCompile:
		return api.ArtifactObject
	case written && d.Kind == api.StepArchive:
		return api.ArtifactArchive
	case written && d.Kind == api.StepShare:
		return api.ArtifactLibrary
	case written && d.Kind == api.StepLink:
		return api.ArtifactBinary
	}
	return api.ArtifactText
}

// data is that of a file.
func (p *plain) data(path string) string {
	data, _ := tree.Find(p.built.Files, path)
	return data
}

// all returns the segments of the artifact at a path.
func (p *plain) all(path string) []api.Segment {
	var l []api.Segment
	add := func(member string, kind, index int) {
		l = append(l, api.Segment{Path: path, Member: member, Kind: kind, Index: index})
	}
	ofObject := func(member string, o api.Object) {
		add(member, api.SegmentFile, 0)
		for i := range o.Sections {
			add(member, api.SegmentSection, i)
		}
	}
	b, _ := binary.Decode(p.data(path))
	switch p.kind(path) {
	case api.ArtifactText:
		add("", api.SegmentFile, 0)
		for i := range strings.Split(p.data(path), "\n") {
			add("", api.SegmentLine, i)
		}
	case api.ArtifactObject:
		o, _ := object.Decode(p.data(path))
		ofObject("", o)
	case api.ArtifactArchive:
		members, _ := object.Unpack(p.data(path))
		for _, m := range members {
			ofObject(m.Name, m.Object)
		}
	case api.ArtifactLibrary:
		add("", api.SegmentFile, 0)
		add("", api.SegmentList, 0)
		for i := range b.Places {
			add("", api.SegmentSection, i)
		}
	case api.ArtifactBinary:
		add("", api.SegmentFile, 0)
		for i := range b.Places {
			add("", api.SegmentSection, i)
		}
	}
	return l
}

// line, heads, section and list are what these reads take; end is a line with the number -1.
func (p *plain) line(path string, n int) []api.Segment {
	if p.kind(path) != api.ArtifactText {
		return p.all(path)
	}
	l := []api.Segment{{Path: path, Kind: api.SegmentFile}}
	if n >= 0 {
		l = append(l, api.Segment{Path: path, Kind: api.SegmentLine, Index: n})
	}
	return l
}

func (p *plain) heads(path, member string) []api.Segment {
	if k := p.kind(path); k != api.ArtifactObject && k != api.ArtifactArchive {
		return p.all(path)
	}
	return []api.Segment{{Path: path, Member: member, Kind: api.SegmentFile}}
}

func (p *plain) section(path, member string, n int) []api.Segment {
	if k := p.kind(path); k != api.ArtifactObject && k != api.ArtifactArchive {
		return p.all(path)
	}
	return []api.Segment{{Path: path, Member: member, Kind: api.SegmentSection, Index: n}}
}

func (p *plain) list(path string) []api.Segment {
	if p.kind(path) != api.ArtifactLibrary {
		return p.all(path)
	}
	return []api.Segment{{Path: path, Kind: api.SegmentList}}
}

// flow adds the flows to a segment.
func (p *plain) flow(to api.Segment, route int, from []api.Segment) {
	for _, f := range from {
		p.flows[api.Flow{To: to, From: f, Route: route}] = true
	}
}

// lines adds the flows of all lines of a set.
func (p *plain) lines(to api.Segment, l api.Lines) {
	for _, s := range l {
		for n := s.From; n < s.To; n++ {
			p.flow(to, api.RouteIn, p.line(s.Path, n))
		}
	}
}

// follow adds the flows of the next step, which reads In and Using, and writes Out, all of them paths.
func (p *plain) follow(s api.Step) {
	p.flows = map[api.Flow]bool{}
	all := p.all(s.Out)
	switch s.Kind {
	case api.StepCopy, api.StepInstall:
		for _, to := range all {
			p.flow(to, api.RouteIn, []api.Segment{{Path: s.In[0], Member: to.Member, Kind: to.Kind, Index: to.Index}})
		}
	case api.StepPatch:
		p.patch(s, all)
	case api.StepRun:
		for _, to := range all {
			for _, path := range append([]string{s.In[0]}, s.Using...) {
				p.flow(to, api.RouteBy, p.all(path))
			}
			p.flow(to, api.RouteIn, p.all(s.In[1]))
		}
	case api.StepCompile:
		_, reading, _ := compile.Unit(p.sandbox.Visible(), s.In[0], s.Words)
		for _, to := range all {
			for _, path := range reading.Files {
				p.flow(to, api.RouteIn, p.line(path, -1))
			}
			p.lines(to, reading.Heads)
			if to.Kind == api.SegmentSection {
				p.lines(to, reading.Sections[to.Index])
			}
		}
	case api.StepArchive:
		for _, to := range all {
			if to.Kind == api.SegmentFile {
				p.flow(to, api.RouteIn, p.heads(to.Member, ""))
			} else {
				p.flow(to, api.RouteIn, p.section(to.Member, "", to.Index))
			}
		}
	default:
		p.link(s, all)
	}
}

// patch adds the flows of a patch.
func (p *plain) patch(s api.Step, all []api.Segment) {
	q, _ := patch.Parse(p.data(s.In[1]))
	places, _ := patch.Trace(q, strings.Count(p.data(s.In[0]), "\n")+1)
	for i, place := range places {
		if place.New < 0 {
			p.flow(all[1+i], api.RouteIn, p.line(s.In[0], place.Old))
		} else {
			p.flow(all[1+i], api.RouteIn, p.line(s.In[1], place.New))
		}
	}
	p.flow(all[0], api.RouteIn, p.line(s.In[0], -1))
	p.flow(all[0], api.RouteIn, p.line(s.In[1], -1))
	for n := range strings.Split(p.data(s.In[1]), "\n") {
		if !slices.ContainsFunc(places, func(x api.Place) bool { return x.New == n }) {
			p.flow(all[0], api.RouteIn, p.line(s.In[1], n))
		}
	}
}

// link adds the flows of a program or a library.
func (p *plain) link(s api.Step, all []api.Segment) {
	var objects []api.Member
	for _, path := range s.In {
		o, _ := object.Decode(p.data(path))
		objects = append(objects, api.Member{Name: path, Object: o})
	}
	var shelves []api.Shelf
	var libs []api.Library
	for _, path := range s.Using {
		if l, e := object.Unpack(p.data(path)); e == api.OK {
			shelves = append(shelves, api.Shelf{Path: path, Members: l})
		} else {
			b, _ := binary.Decode(p.data(path))
			libs = append(libs, api.Library{Path: path, Binary: b})
		}
	}
	// find returns the path, the member and the object with a name
	find := func(name string) (string, string, api.Object) {
		path, member, _ := strings.Cut(name, "!")
		for _, m := range objects {
			if m.Name == name {
				return path, member, m.Object
			}
		}
		for _, l := range shelves {
			for _, m := range l.Members {
				if l.Path == path && m.Name == member {
					return path, member, m.Object
				}
			}
		}
		return "", "", api.Object{}
	}
	b, read, _ := link.Share(objects)
	if s.Kind == api.StepLink {
		b, read, _ = link.Link(s.Words[0], objects, shelves, libs)
	}
	for _, to := range all {
		for _, name := range read.Tables {
			path, member, _ := find(name)
			p.flow(to, api.RouteIn, p.heads(path, member))
		}
		for _, path := range s.Using {
			if k := p.kind(path); k != api.ArtifactArchive && k != api.ArtifactLibrary {
				p.flow(to, api.RouteIn, p.all(path))
			}
		}
		for _, path := range read.Lists {
			p.flow(to, api.RouteList, p.list(path))
		}
		if to.Kind == api.SegmentSection {
			place := b.Places[to.Index]
			path, member, o := find(place.Object)
			i := slices.IndexFunc(o.Symbols, func(x api.Symbol) bool { return x.Name == place.Symbol })
			p.flow(to, api.RouteIn, p.section(path, member, o.Symbols[i].Section))
		}
	}
}

// sorted returns the flows of the step that was followed, in order.
func (p *plain) sorted(all []api.Segment) []api.Flow {
	var l []api.Flow
	for _, to := range all {
		var part []api.Flow
		for f := range p.flows {
			if f.To == to {
				part = append(part, f)
			}
		}
		slices.SortFunc(part, func(a, b api.Flow) int {
			x, y := a.From, b.From
			return cmp.Or(cmp.Compare(x.Path, y.Path), cmp.Compare(x.Member, y.Member), x.Kind-y.Kind, x.Index-y.Index, a.Route-b.Route)
		})
		l = append(l, part...)
	}
	return l
}

// each builds a distribution, and calls a function for each step, with its paths, and the number of the package.
func each(t *testing.T, d api.Distribution, f func(p *plain, n int, s api.Step, place int)) {
	t.Helper()
	built, _ := build.Build(d)
	s, e := build.New(d)
	if e != api.OK {
		t.Fatal(e)
	}
	p := &plain{d: d, built: built, sandbox: s}
	n := 0
	for place, q := range d {
		text, _ := tree.Find(q.Tree, q.Recipe)
		steps, _, _ := recipe.Parse(text)
		for _, s := range steps {
			for _, refs := range [][]string{s.In, s.Using} {
				for i, ref := range refs {
					refs[i], _ = source.Reference(q.Name, ref)
				}
			}
			s.Out = q.Name + "/" + s.Out
			f(p, n, s, place)
			if did, _ := p.sandbox.Next(); !did {
				t.Fatal(n)
			}
			n++
		}
	}
}

// recipes returns those of a distribution.
func recipes(d api.Distribution) []string {
	var l []string
	for _, p := range d {
		text, _ := tree.Find(p.Tree, p.Recipe)
		l = append(l, text)
	}
	return l
}

// P19.2, P19.3: tracers of distributions made at random are those of the definitions.
func TestByDefinition(t *testing.T) {
	r := rand.New(rand.NewSource(1))
	m := sample.Maker{Intn: r.Intn}
	kinds, ofOthers := map[int]int{}, 0
	for range 150 {
		d := m.Distribution(1+r.Intn(3), 8)
		x := traced(t, d...)
		each(t, d, func(p *plain, n int, s api.Step, place int) {
			p.follow(s)
			if want := p.sorted(p.all(s.Out)); !slices.Equal(x.Flows(n), want) {
				t.Fatalf("%d %+v\n%q\n%q", n, s, showFlows(x.Flows(n)), showFlows(want))
			}
			var recipes api.Lines
			for _, q := range d[:place+1] {
				text, _ := tree.Find(q.Tree, q.Recipe)
				recipes = append(recipes, sp(q.Name+"/"+q.Recipe, 0, len(strings.Split(text, "\n"))))
			}
			slices.SortFunc(recipes, func(a, b api.Span) int { return cmp.Compare(a.Path, b.Path) })
			if !slices.Equal(x.Recipes(n), recipes) {
				t.Fatal(x.Recipes(n), recipes)
			}
			kinds[s.Kind]++
			for _, path := range s.Using {
				if p.kind(path) == api.ArtifactText {
					ofOthers++
				}
			}
			if n > 0 {
				return
			}
			for _, f := range p.built.Files {
				if x.Artifact(f.Path) != p.kind(f.Path) || !slices.Equal(x.Segments(f.Path), p.all(f.Path)) {
					t.Fatal(f.Path, x.Artifact(f.Path))
				}
			}
		})
	}
	for kind := api.StepCompile; kind <= api.StepInstall; kind++ {
		if kinds[kind] < 20 {
			t.Error(kind, kinds[kind])
		}
	}
	if ofOthers < 20 {
		t.Error(ofOthers)
	}
}

// P19.4: segments come from segments of files that the step has read, all segments that are written come from something, what a run writes comes from all of its program, and a copy comes from its original segment by segment.
func TestConsequences(t *testing.T) {
	r := rand.New(rand.NewSource(2))
	m := sample.Maker{Intn: r.Intn}
	for range 80 {
		d := m.Distribution(1+r.Intn(3), 8)
		x := traced(t, d...)
		for n, done := range x.Built().Record {
			flows := x.Flows(n)
			to := x.Segments(done.Wrote.Path)
			reached := map[api.Segment]bool{}
			known := map[api.Segment]bool{}
			for _, y := range done.Reads {
				for _, s := range x.Segments(y.Path) {
					known[s] = true
				}
			}
			for i, f := range flows {
				reached[f.To] = true
				if !known[f.From] || !slices.Contains(to, f.To) || f.Route < api.RouteIn || f.Route > api.RouteList || slices.Contains(flows[:i], f) {
					t.Fatal(recipes(d), n, f)
				}
			}
			if len(reached) != len(to) {
				t.Fatal(recipes(d), n, len(reached), len(to))
			}
			original := x.Segments(done.Reads[0].Path)
			for i, s := range to {
				for _, from := range original {
					if done.Kind == api.StepRun && !slices.Contains(flows, api.Flow{To: s, From: from, Route: api.RouteBy}) {
						t.Fatal(recipes(d), n, from)
					}
				}
				if done.Kind >= api.StepCopy && (len(flows) != len(to) || flows[i] != api.Flow{To: s, From: original[i], Route: api.RouteIn}) {
					t.Fatal(recipes(d), n, flows)
				}
			}
		}
	}
}
