package influence

import (
	"fmt"
	"maps"
	"math/rand"
	"slices"
	"strings"
	"testing"

	"licit/api"
	"licit/binary"
	"licit/build"
	"licit/lineset"
	"licit/origin"
	"licit/record"
	"licit/sample"
	"licit/tree"
)

// plain computes origins by the plain words of the definition, from the flows of a tracer.
type plain struct {
	tracer *origin.Tracer
	record api.Record
	known  map[api.Segment]api.Origin
	flows  map[int][]api.Flow
}

// newPlain follows the build of a distribution.
func newPlain(d api.Distribution) *plain {
	t, _ := origin.New(d)
	return &plain{t, t.Built().Record, map[api.Segment]api.Origin{}, map[int][]api.Flow{}}
}

// origin returns that of a segment.
func (p *plain) origin(s api.Segment) api.Origin {
	if o, found := p.known[s]; found {
		return o
	}
	step := slices.IndexFunc(p.record, func(d api.Done) bool { return d.Wrote.Path == s.Path })
	var o api.Origin
	switch {
	case step >= 0:
		if p.flows[step] == nil {
			p.flows[step] = p.tracer.Flows(step)
		}
		for _, f := range p.flows[step] {
			if f.To == s {
				from, _ := origin.Through(p.origin(f.From), f.Route)
				o, _ = origin.Union(o, from)
			}
		}
	case s.Kind == api.SegmentLine:
		o.In = api.Lines{sp(s.Path, s.Index, s.Index+1)}
	}
	p.known[s] = o
	return o
}

// whole returns the union of the origins of some segments.
func (p *plain) whole(l []api.Segment) api.Origin {
	var o api.Origin
	for _, s := range l {
		o, _ = origin.Union(o, p.origin(s))
	}
	return o
}

// influence returns that of an output.
func (p *plain) influence(output string) api.Influence {
	all := p.tracer.Segments(output)
	step := slices.IndexFunc(p.record, func(d api.Done) bool { return d.Wrote.Path == output })
	i := api.Influence{Output: output, Whole: p.whole(all), Recipes: p.tracer.Recipes(step)}
	if kind := p.tracer.Artifact(output); kind != api.ArtifactLibrary && kind != api.ArtifactBinary {
		return i
	}
	data, _ := tree.Find(p.tracer.Built().Files, output)
	b, _ := binary.Decode(data)
	for n, place := range b.Places {
		var before []api.Segment
		for _, s := range all {
			if s.Kind == api.SegmentFile || s.Kind == api.SegmentSection && s.Index < n {
				before = append(before, s)
			}
		}
		content := p.origin(api.Segment{Path: output, Kind: api.SegmentSection, Index: n})
		i.Sections = append(i.Sections, api.SectionInfluence{Object: place.Object, Symbol: place.Symbol, Content: content, Layout: p.whole(before)})
	}
	return i
}

// P20.1 to P20.3: marks, influences and idle lines of distributions made at random are those of the definitions.
func TestByDefinition(t *testing.T) {
	r := rand.New(rand.NewSource(1))
	m := sample.Maker{Intn: r.Intn}
	sections, routes := 0, map[int]int{}
	for range 80 {
		d := m.Distribution(1+r.Intn(3), 7)
		p := newPlain(d)
		l, f := All(d)
		if f != (api.Fault{}) {
			t.Fatal(f)
		}
		all := sourceLines(r, d)
		idle := map[api.Line]bool{}
		for _, x := range all {
			idle[x] = true
		}
		for n, output := range p.tracer.Built().Installed {
			want := p.influence(output)
			if fmt.Sprint(l[n]) != fmt.Sprint(want) {
				t.Fatalf("%v\n%v\n%v", recipes(d), l[n], want)
			}
			sections += len(want.Sections)
			for x := range idle {
				if len(Routes(want, x)) > 0 {
					delete(idle, x)
				}
			}
			for _, x := range all {
				for _, route := range Routes(want, x) {
					routes[route]++
				}
			}
		}
		left, _ := lineset.Of(slices.Collect(maps.Keys(idle)))
		if l, f := Idle(d); f != (api.Fault{}) || !slices.Equal(l, left) {
			t.Fatal(recipes(d), l)
		}
		files := p.tracer.Built().Files
		path := files[r.Intn(len(files))].Path
		var want []api.Marked
		for _, s := range p.tracer.Segments(path) {
			want = append(want, api.Marked{Segment: s, Origin: p.origin(s)})
		}
		if l, f := Marks(d, path); f != (api.Fault{}) || fmt.Sprint(l) != fmt.Sprint(want) {
			t.Fatalf("%v\n%v\n%v", recipes(d), l, want)
		}
	}
	if sections < 50 {
		t.Error(sections)
	}
	for route := api.RouteIn; route <= api.RouteRecipe; route++ {
		if routes[route] < 100 {
			t.Error(route, routes[route])
		}
	}
}

// recipes returns those of a distribution.
func recipes(d api.Distribution) []string {
	var l []string
	for _, p := range d {
		text, _ := tree.Find(p.Tree, p.Recipe)
		l = append(l, p.Name+":", text)
	}
	return l
}

// sourceLines returns all lines of the trees of a distribution, in any order.
func sourceLines(r *rand.Rand, d api.Distribution) []api.Line {
	var l []api.Line
	for _, p := range d {
		for _, f := range p.Tree {
			for n := range strings.Split(f.Data, "\n") {
				l = append(l, api.Line{Path: p.Name + "/" + f.Path, N: n})
			}
		}
	}
	r.Shuffle(len(l), func(i, j int) { l[i], l[j] = l[j], l[i] })
	return l
}

// edited returns a distribution in which a few lines, of those that a function permits, are replaced.
func edited(r *rand.Rand, d api.Distribution, permits func(x api.Line) bool) api.Distribution {
	texts := []string{"", "note 0", "?", "2", "out 7", "return 9", "( x", "extern zz", "do 1", "8, 9", "b", "export data zz 0"}
	chosen := slices.DeleteFunc(sourceLines(r, d), func(x api.Line) bool { return !permits(x) })
	chosen = chosen[:min(len(chosen), 1+r.Intn(3))]
	d = slices.Clone(d)
	for i, p := range d {
		d[i].Tree = slices.Clone(p.Tree)
		for j, f := range p.Tree {
			l := strings.Split(f.Data, "\n")
			for _, x := range chosen {
				if x.Path != p.Name+"/"+f.Path {
					continue
				}
				at := strings.IndexAny(l[x.N], "123456789")
				if at >= 0 && r.Intn(2) > 0 {
					l[x.N] = l[x.N][:at] + string([]byte{byte('1' + r.Intn(9))}) + l[x.N][at+1:]
				} else {
					l[x.N] = texts[r.Intn(len(texts))]
				}
			}
			d[i].Tree[j].Data = strings.Join(l, "\n")
		}
	}
	return d
}

// trials calls a function with distributions made at random, what is built of them, and the influence of one of their outputs.
func trials(seed int64, n int, try func(r *rand.Rand, d api.Distribution, b api.Built, i api.Influence)) {
	r := rand.New(rand.NewSource(seed))
	m := sample.Maker{Intn: r.Intn}
	for range n {
		d := m.Distribution(1+r.Intn(3), 7)
		b, _ := build.Build(d)
		l, _ := All(d)
		for range min(7, 7*len(l)) {
			try(r, d, b, l[r.Intn(len(l))])
		}
	}
}

// P20.4: outputs are the same if lines outside of their influence differ, and often other ones if lines within do.
func TestSound(t *testing.T) {
	same, changed := 0, 0
	trials(2, 90, func(r *rand.Rand, d api.Distribution, b api.Built, i api.Influence) {
		lines, _ := Lines(i)
		within := r.Intn(2) == 0
		c := edited(r, d, func(x api.Line) bool { return lineset.Has(lines, x) == within })
		other, f := build.Build(c)
		if f.Error != api.OK {
			return
		}
		before, _ := tree.Find(b.Files, i.Output)
		after, _ := tree.Find(other.Files, i.Output)
		switch {
		case !within && before != after:
			t.Fatalf("%s\n%q\n%q\n%v", i.Output, d, c, i)
		case !within:
			same++
		case before != after:
			changed++
		}
	})
	if same < 100 || changed < 10 {
		t.Error(same, changed)
	}
}

// P20.4: a section that is selected in both has the same bytes before relocation, if no line of its Content and of the recipes differs.
func TestSoundSections(t *testing.T) {
	same, moved := 0, 0
	trials(3, 110, func(r *rand.Rand, d api.Distribution, b api.Built, i api.Influence) {
		if len(i.Sections) == 0 {
			return
		}
		s := i.Sections[r.Intn(len(i.Sections))]
		content, _ := origin.All(s.Content)
		kept, _ := lineset.Union(content, i.Recipes)
		all, _ := Lines(i)
		// mostly lines of other sections
		outside := r.Intn(4) == 0
		c := edited(r, d, func(x api.Line) bool { return !lineset.Has(kept, x) && (outside || lineset.Has(all, x)) })
		other, f := build.Build(c)
		if f.Error != api.OK {
			return
		}
		before, _ := placeOf(b, i.Output, s)
		after, found := placeOf(other, i.Output, s)
		switch {
		case !found:
			return
		case before.plain != after.plain:
			t.Fatalf("%s %s\n%q\n%q\n%v", i.Output, s.Symbol, d, c, s)
		case before.at != after.at:
			moved++
		}
		same++
	})
	if same < 100 || moved < 3 {
		t.Error(same, moved)
	}
}

// placed is where a section is, and its bytes before relocation.
type placed struct {
	at    int
	plain string
}

// placeOf returns the section of an output that was built, and whether it was selected.
func placeOf(b api.Built, output string, s api.SectionInfluence) (placed, bool) {
	data, _ := tree.Find(b.Files, output)
	x, _ := binary.Decode(data)
	for n, p := range x.Places {
		if p.Object == s.Object && p.Symbol == s.Symbol {
			plain, _ := binary.Plain(x, n)
			return placed{p.At, plain}, true
		}
	}
	return placed{}, false
}

// union returns the union of some origins.
func union(t *testing.T, l ...api.Origin) api.Origin {
	t.Helper()
	var all api.Origin
	for _, o := range l {
		var e api.Errno
		if all, e = origin.Union(all, o); e != api.OK {
			t.Fatal(o)
		}
	}
	return all
}

// P20.5: what is whole is the union of the contents and layouts, lines are those of sources of needed steps, or of recipes, and idle lines influence nothing.
func TestConsequences(t *testing.T) {
	r := rand.New(rand.NewSource(4))
	m := sample.Maker{Intn: r.Intn}
	for range 80 {
		d := m.Distribution(1+r.Intn(3), 7)
		b, _ := build.Build(d)
		l, _ := All(d)
		idle, _ := Idle(d)
		for _, i := range l {
			var parts []api.Origin
			for _, s := range i.Sections {
				parts = append(parts, s.Content, s.Layout)
			}
			if len(parts) > 0 && fmt.Sprint(union(t, parts...)) != fmt.Sprint(i.Whole) {
				t.Fatal(i.Output, recipes(d))
			}
			lines, e := Lines(i)
			if e != api.OK {
				t.Fatal(e)
			}
			sources := record.Sources(b.Record, i.Output)
			whole, _ := origin.All(i.Whole)
			for _, s := range whole {
				if !slices.Contains(sources, s.Path) {
					t.Fatal(i.Output, s, sources)
				}
			}
			for _, s := range i.Recipes {
				if !slices.ContainsFunc(d, func(p api.Package) bool { return p.Name+"/"+p.Recipe == s.Path }) {
					t.Fatal(s)
				}
			}
			if both, e := lineset.Meet(lines, idle); e != api.OK || len(both) > 0 {
				t.Fatal(both)
			}
			for _, x := range lineset.List(idle) {
				if len(Routes(i, x)) > 0 {
					t.Fatal(x)
				}
			}
		}
		for _, x := range lineset.List(idle) {
			if len(Touches(l, x)) > 0 {
				t.Fatal(x)
			}
		}
	}
}
