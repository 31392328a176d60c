package build

import (
	"fmt"
	"math/rand"
	"slices"
	"strings"
	"testing"

	"licit/api"
	"licit/binary"
	"licit/compile"
	"licit/digest"
	"licit/emulate"
	"licit/link"
	"licit/object"
	"licit/patch"
	"licit/recipe"
	"licit/tree"
)

// world is a build by the plain words of the definition.
type world struct {
	files     api.Tree
	installed map[string]int // which package has done it
	record    api.Record
}

// build builds a valid distribution, up to the first fault.
func (w *world) build(d api.Distribution) api.Fault {
	w.installed = map[string]int{}
	for _, p := range d {
		for _, f := range p.Tree {
			w.files, _ = tree.Put(w.files, api.File{Path: p.Name + "/" + f.Path, Data: f.Data})
		}
	}
	for i, p := range d {
		text, _ := tree.Find(p.Tree, p.Recipe)
		steps, n, e := recipe.Parse(text)
		if e != api.OK {
			return api.Fault{Error: e, Package: i, Step: n, At: api.Line{N: -1}}
		}
		for _, s := range steps {
			if f := w.step(i, p.Name, s); f.Error != api.OK {
				f.Package, f.Step = i, s.Line
				return f
			}
		}
	}
	return api.Fault{}
}

// mayRead returns the files that a step of a package may read.
func (w *world) mayRead(place int, name string) api.Tree {
	own, _ := tree.Mount(tree.Under(w.files, name), name)
	for _, f := range w.files {
		if by, is := w.installed[f.Path]; is && by < place {
			own, _ = tree.Put(own, f)
		}
	}
	return own
}

// step does a step.
func (w *world) step(place int, name string, s api.Step) api.Fault {
	no := func(e api.Errno) api.Fault { return api.Fault{Error: e, At: api.Line{N: -1}} }
	full := func(ref string) string {
		if at, is := strings.CutPrefix(ref, "@"); is {
			return at
		}
		return name + "/" + ref
	}
	for _, ref := range slices.Concat(s.In, s.Using, []string{s.Out}) {
		if tree.Path(full(ref)) != api.OK {
			return no(api.ErrName)
		}
	}
	out := full(s.Out)
	if _, is := tree.Find(w.files, out); is {
		return no(api.ErrTwice)
	}
	if _, e := tree.Put(w.files, api.File{Path: out}); e != api.OK {
		return no(e)
	}
	visible := w.mayRead(place, name)
	var in, using []api.File
	for i, ref := range slices.Concat(s.In, s.Using) {
		data, is := tree.Find(visible, full(ref))
		if !is {
			return no(api.ErrNotFound)
		}
		if f := (api.File{Path: full(ref), Data: data}); i < len(s.In) {
			in = append(in, f)
		} else {
			using = append(using, f)
		}
	}
	data, also, f := written(s, visible, in, using)
	if f.Error != api.OK {
		return f
	}
	done := api.Done{Package: place, Line: s.Line, Kind: s.Kind, Wrote: api.Touch{Path: out, Digest: digest.Sum(data)}}
	for _, f := range slices.Concat(in, using, also) {
		x := api.Touch{Path: f.Path, Digest: digest.Sum(f.Data)}
		if !slices.Contains(done.Reads, x) {
			done.Reads = append(done.Reads, x)
		}
	}
	w.record = append(w.record, done)
	w.files, _ = tree.Put(w.files, api.File{Path: out, Data: data})
	if s.Kind == api.StepInstall {
		w.installed[out] = place
	}
	return api.Fault{}
}

// written returns what a step writes, and what else it has read.
func written(s api.Step, visible api.Tree, in, using []api.File) (string, []api.File, api.Fault) {
	var data string
	e := api.OK
	var objects []api.Member
	if s.Kind == api.StepArchive || s.Kind == api.StepShare || s.Kind == api.StepLink {
		for _, f := range in {
			o, e := object.Decode(f.Data)
			if e != api.OK {
				return "", nil, api.Fault{Error: api.ErrCorrupt, At: api.Line{N: -1}}
			}
			objects = append(objects, api.Member{Name: f.Path, Object: o})
		}
	}
	var shelves []api.Shelf
	var libs []api.Library
	for _, f := range using {
		m, e := object.Unpack(f.Data)
		b, g := binary.Decode(f.Data)
		switch {
		case g == api.OK && (s.Kind == api.StepRun || b.Kind == api.Shared):
			libs = append(libs, api.Library{Path: f.Path, Binary: b})
		case e == api.OK && s.Kind == api.StepLink:
			shelves = append(shelves, api.Shelf{Path: f.Path, Members: m})
		default:
			return "", nil, api.Fault{Error: api.ErrCorrupt, At: api.Line{N: -1}}
		}
	}
	var b api.Binary
	switch s.Kind {
	case api.StepCompile:
		o, r, f := compile.Unit(visible, in[0].Path, s.Words)
		if f.Error != api.OK {
			return "", nil, f
		}
		var also []api.File
		for _, p := range r.Files {
			text, _ := tree.Find(visible, p)
			also = append(also, api.File{Path: p, Data: text})
		}
		data, e = object.Encode(o)
		return data, also, api.Fault{Error: e, At: api.Line{N: -1}}
	case api.StepArchive:
		data, e = object.Pack(objects)
	case api.StepShare:
		b, _, e = link.Share(objects)
	case api.StepLink:
		b, _, e = link.Link(s.Words[0], objects, shelves, libs)
	case api.StepRun:
		p, f := binary.Decode(in[0].Data)
		if e = f; e == api.OK {
			var r api.Result
			r, e = emulate.Run(p, libs, in[1].Data, api.MaxSteps)
			data = r.Output
		}
	case api.StepPatch:
		var p api.Patch
		if p, e = patch.Parse(in[1].Data); e == api.OK {
			data, e = patch.Apply(p, in[0].Data)
		}
	default:
		data = in[0].Data
	}
	if b.Kind != 0 {
		data, e = binary.Encode(b)
	}
	return data, nil, api.Fault{Error: e, At: api.Line{N: -1}}
}

// maker makes distributions at random.
type maker struct {
	*rand.Rand
	samples map[string]string
	names   []string
}

// pick returns one of some strings.
func (m *maker) pick(l ...string) string { return l[m.Intn(len(l))] }

// refs returns references that often denote a file.
func (m *maker) refs(n int) string {
	var l []string
	for range n {
		l = append(l, m.pick(m.names...))
	}
	return strings.Join(l, " ")
}

// step returns a line of a recipe; what it writes is often a new file.
func (m *maker) step(out string) string {
	if m.Intn(20) == 0 {
		out = m.pick(m.names...)
	}
	objects := func() string {
		l := []string{"main.o", "f.o", "g.o", "@lib/o/g.o"}
		m.Shuffle(len(l), func(i, j int) { l[i], l[j] = l[j], l[i] })
		return strings.Join(l[:1+m.Intn(4)], " ")
	}
	switch m.Intn(12) {
	case 0:
		return "compile " + m.pick("main.src", "f.src", "inc.src", "@lib/o/g.src", m.refs(1)) + " to " + out
	case 1:
		return "compile " + m.pick("main.src", "inc.src") + " to " + out + " with big"
	case 2:
		return "archive " + objects() + " to " + out
	case 3:
		return "share " + m.pick("g.o", "f.o g.o", objects()) + " to " + out
	case 4:
		return "link main main.o " + m.pick("f.o g.o", "f.o using g.so", "using l.a g.so", "using l.a", objects()) + " to " + out
	case 5:
		return "link main " + objects() + " using " + m.pick("l.a", "g.so", "@lib/o/g.so", "l.a @lib/o/g.so", m.refs(2)) + " to " + out
	case 6:
		return "run " + m.pick("bin", "bin", "bin using g.so", m.refs(1)) + " on " + m.refs(1) + " to " + out
	case 7:
		return "patch " + m.pick("text", m.refs(1)) + " with " + m.pick("p", "p", m.refs(1)) + " to " + out
	case 8:
		return "copy " + m.refs(1) + " to " + out
	case 9:
		return "archive " + m.refs(1+m.Intn(2)) + " to " + out
	}
	return "install " + m.refs(1) + " as " + m.pick(out, "o/"+out)
}

// distribution returns one of up to three packages, with all samples in each of them.
func (m *maker) distribution() api.Distribution {
	var d api.Distribution
	for _, name := range []string{"lib", "app", "end"}[:1+m.Intn(3)] {
		var lines, parts []string
		if name == "lib" {
			lines = append(lines, "install g.o as o/g.o", "install g.src as o/g.src", "install g.so as o/g.so")[:m.Intn(4)]
		}
		for i := range m.Intn(6) {
			lines = append(lines, m.step(fmt.Sprintf("made%d", i)))
			if m.Intn(5) == 0 {
				lines = append(lines, "")
			}
		}
		if m.Intn(60) == 0 {
			lines = append(lines, "make")
		}
		for path, text := range m.samples {
			parts = append(parts, path, text)
		}
		d = append(d, pack(name, strings.Join(lines, "\n"), parts...))
	}
	return d
}

// recipes returns those of a distribution.
func recipes(d api.Distribution) []string {
	var l []string
	for _, p := range d {
		text, _ := tree.Find(p.Tree, p.Recipe)
		l = append(l, text)
	}
	return l
}

// someMaker returns a maker with samples of all kinds of files.
func someMaker(t *testing.T, seed int64) *maker {
	main, f, g := compiled(t, mainText), compiled(t, fText), compiled(t, gText)
	archive, _ := object.Pack([]api.Member{{Name: "z/f.o", Object: f}, {Name: "z/g.o", Object: g}})
	so, r, e := link.Share([]api.Member{{Name: "z/g.o", Object: g}})
	shared := bytesOf(t, so, r, e)
	bin, r, e := link.Link("main", []api.Member{{Name: "z/e.o", Object: compiled(t, echoText)}, {Name: "z/g.o", Object: g}}, nil, nil)
	m := &maker{rand.New(rand.NewSource(seed)), map[string]string{
		"main.src": mainText, "f.src": fText, "g.src": gText, "inc.src": "include @lib/o/g.src\nwhen big 1\ninclude f.src",
		"main.o": encoded(t, main), "f.o": encoded(t, f), "g.o": encoded(t, g), "l.a": archive, "g.so": shared, "bin": bytesOf(t, bin, r, e),
		"text": "a\nb", "p": "keep 1\ndrop 1",
	}, nil}
	for path := range m.samples {
		m.names = append(m.names, path)
	}
	m.names = append(m.names, "made0", "made1", "made2", "made0/x", "o", "@lib/o/g.o", "@lib/o/g.src", "@lib/g.o", "@lib/o/made1", "@app/made0", "@app/o/made0", "none", "a/b/c/d/e/f/g/h")
	slices.Sort(m.names)
	return m
}

// P15.1 to P15.3: builds are those of the definition, up to the first fault.
func TestByDefinition(t *testing.T) {
	m := someMaker(t, 1)
	found, kinds := map[api.Errno]int{}, map[int]int{}
	for range 6000 {
		d := m.distribution()
		var w world
		want := w.build(d)
		b, f := Build(d)
		if f != want {
			t.Fatal(f, want, recipes(d))
		}
		s := sandbox(t, d)
		if f := rest(s); f != want {
			t.Fatal(f, want)
		}
		r := s.Result()
		installed := []string{}
		for p := range w.installed {
			installed = append(installed, p)
		}
		slices.Sort(installed)
		if !sameBuilt(r, api.Built{Files: w.files, Installed: installed, Record: w.record}) {
			t.Fatal(recipes(d))
		}
		if f.Error == api.OK && !sameBuilt(b, r) || f.Error != api.OK && !isZero(b) {
			t.Fatal(recipes(d))
		}
		found[f.Error]++
		for _, x := range r.Record {
			kinds[x.Kind]++
		}
	}
	for _, e := range []api.Errno{api.OK, api.ErrName, api.ErrTwice, api.ErrNotFound, api.ErrCorrupt, api.ErrUnknown, api.ErrSyntax, api.ErrMismatch} {
		if found[e] < 20 {
			t.Error(e, found[e])
		}
	}
	for kind := api.StepCompile; kind <= api.StepInstall; kind++ {
		if kinds[kind] < 100 {
			t.Error(kind, kinds[kind])
		}
	}
}

// P15.2, P15.3: nothing that exists is changed or removed, each step adds one file, each file that was read existed before, and what is read of other packages was installed by an earlier one. Nothing is visible behind the last step, or a fault.
func TestConsequences(t *testing.T) {
	m := someMaker(t, 2)
	for range 1500 {
		d := m.distribution()
		s := sandbox(t, d)
		installed := map[string]int{}
		for {
			before, visible := s.Result(), s.Visible()
			if did, _ := s.Next(); !did {
				break
			}
			after := s.Result()
			last := after.Record[len(after.Record)-1]
			if len(after.Record) != len(before.Record)+1 || len(after.Files) != len(before.Files)+1 || tree.Check(after.Files) != api.OK {
				t.Fatal(recipes(d))
			}
			for _, f := range before.Files {
				if text, is := tree.Find(after.Files, f.Path); !is || text != f.Data {
					t.Fatal(f.Path)
				}
			}
			if _, is := tree.Find(before.Files, last.Wrote.Path); is || !strings.HasPrefix(last.Wrote.Path, d[last.Package].Name+"/") {
				t.Fatal(last)
			}
			for i, x := range last.Reads {
				text, is := tree.Find(before.Files, x.Path)
				_, may := tree.Find(visible, x.Path)
				by, was := installed[x.Path]
				own := strings.HasPrefix(x.Path, d[last.Package].Name+"/")
				if !is || !may || digest.Sum(text) != x.Digest || !own && (!was || by >= last.Package) || slices.Index(last.Reads, x) != i {
					t.Fatal(last)
				}
			}
			if last.Kind == api.StepInstall {
				installed[last.Wrote.Path] = last.Package
			}
		}
		if v := s.Visible(); v != nil {
			t.Fatal(v, recipes(d))
		}
		b, f := Build(d)
		c, g := Build(copyOf(d))
		if f != g || !sameBuilt(b, c) || f.Error == api.OK && !sameBuilt(b, s.Result()) {
			t.Fatal(recipes(d))
		}
	}
}

// P15.3: a step depends on the files alone that its record names: other data of all other files that are not changed by it lead to the same.
func TestWhatStepsDependOn(t *testing.T) {
	m := someMaker(t, 3)
	n := 0
	for range 1500 {
		d := m.distribution()
		b, f := Build(d)
		if f.Error != api.OK {
			continue
		}
		read := map[string]bool{}
		for _, x := range b.Record {
			for _, y := range x.Reads {
				read[y.Path] = true
			}
		}
		c := copyOf(d)
		for i, p := range c {
			for j, x := range p.Tree {
				if x.Path != p.Recipe && !read[p.Name+"/"+x.Path] {
					c[i].Tree[j].Data = "other"
				}
			}
		}
		other := built(t, c)
		if !slices.EqualFunc(b.Record, other.Record, sameDone) || !slices.Equal(b.Installed, other.Installed) {
			t.Fatal(recipes(d))
		}
		n++
	}
	if n < 100 {
		t.Error(n)
	}
}
