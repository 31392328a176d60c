package build

import (
	"slices"
	"strings"
	"testing"

	"licit/api"
	"licit/binary"
	"licit/compile"
	"licit/link"
	"licit/object"
)

// compiled returns the object of a source file.
func compiled(t *testing.T, text string, flags ...string) api.Object {
	t.Helper()
	o, _, f := compile.Unit(files("p/x", text), "p/x", flags)
	if f.Error != api.OK {
		t.Fatal(f)
	}
	return o
}

// encoded returns the bytes of an object.
func encoded(t *testing.T, o api.Object) string {
	t.Helper()
	s, e := object.Encode(o)
	if e != api.OK {
		t.Fatal(e)
	}
	return s
}

// bytesOf returns the bytes of a binary.
func bytesOf(t *testing.T, b api.Binary, _ api.LinkReading, e api.Errno) string {
	t.Helper()
	s, f := binary.Encode(b)
	if e != api.OK || f != api.OK {
		t.Fatal(e, f)
	}
	return s
}

// Some source texts: a main that calls f, an f that calls g, a g, and a program that copies its input and a byte of a library.
const (
	mainText = "extern f\nexport fn main 1\nout f()"
	fText    = "extern g\nexport fn f 1\nreturn g() + 1"
	gText    = "export fn g 1\nreturn 65"
	echoText = "extern g\nexport fn main 5\nlet c = in()\nwhile c != 4294967295 2\nout c\nset c = in()\nout g()"
)

// P15.1: what a compilation writes and reads: flags, includes of the own package and of an installed file, and references.
func TestCompile(t *testing.T) {
	lib := pack("lib", "install a.src as inc/a.src", "a.src", "when big 1\ninclude b.src\nexport data a 1\n1", "b.src", "export data b 1\n2")
	app := pack("app", "compile m.src to m.o\ncompile @lib/inc/a.src to a.o\ncompile m.src to n.o with x y", "m.src", "include @lib/inc/a.src\ninclude d/c.src\nwhen x 1\nextern e\nexport data m 1\n3", "d/c.src", "include d/e.src\nexport data c 1\n4", "d/e.src", "")
	b := built(t, api.Distribution{lib, app})
	a := "export data a 1\n1"
	m := compiled(t, a+"\nexport data c 1\n4\nexport data m 1\n3")
	if s := data(t, b, "app/m.o"); s != encoded(t, m) {
		t.Errorf("%q", s)
	}
	if s := data(t, b, "app/a.o"); s != encoded(t, compiled(t, a)) {
		t.Errorf("%q", s)
	}
	n := compiled(t, a+"\nexport data c 1\n4\nextern e\nexport data m 1\n3")
	if s := data(t, b, "app/n.o"); s != encoded(t, n) {
		t.Errorf("%q", s)
	}
	for i, want := range [][]string{
		{"app/m.src", "app/d/c.src", "app/d/e.src", "lib/inc/a.src"},
		{"lib/inc/a.src"},
		{"app/m.src", "app/d/c.src", "app/d/e.src", "lib/inc/a.src"},
	} {
		if l := readPaths(b.Record[:i+2]); !slices.Equal(l, want) {
			t.Error(i, l)
		}
	}
	for i, x := range b.Record[1].Reads {
		if x.Digest != touch("", data(t, b, x.Path)).Digest {
			t.Error(i, x)
		}
	}
}

// P15.1: a compilation reads only what it may: not a file of another package that is not installed, also if one includes it that is.
func TestCompileHidden(t *testing.T) {
	lib := pack("lib", "install a.src as inc/a.src", "a.src", "when big 1\ninclude b.src", "b.src", "")
	app := pack("app", "\ncompile m.src to m.o with big", "m.src", "\ninclude @lib/inc/a.src")
	want := api.Fault{Error: api.ErrNotFound, Package: 1, Step: 1, At: api.Line{Path: "lib/inc/a.src", N: 1}}
	if b, f := Build(api.Distribution{lib, app}); f != want || !isZero(b) {
		t.Error(f)
	}
	app = pack("app", "compile m.src to m.o", "m.src", "include @lib/b.src")
	want = api.Fault{Error: api.ErrNotFound, Package: 1, Step: 0, At: api.Line{Path: "app/m.src", N: 0}}
	if b, f := Build(api.Distribution{lib, app}); f != want || !isZero(b) {
		t.Error(f)
	}
}

// P15.1: archives, shared libraries and programs, with objects, archives and libraries of this package and of another one, named by full paths.
func TestObjects(t *testing.T) {
	m, f, g := compiled(t, mainText), compiled(t, fText), compiled(t, gText)
	lib := pack("lib", "compile g.src to g.o\nshare g.o to l.so\ninstall l.so as out/l.so\narchive g.o to g.a\ninstall g.a as out/g.a\ninstall g.o as out/g.o", "g.src", gText)
	app := pack("app", "compile m.src to m.o\ncompile f.src to f.o\narchive f.o @lib/out/g.o m.o to f.a\narchive @lib/out/g.o to g.a\nlink main m.o using f.a to m1\nlink main m.o using f.a g.a @lib/out/l.so to m2\nlink main m.o f.o using @lib/out/l.so to m3\nlink main m.o f.o using g.a @lib/out/l.so @lib/out/g.a to m4\nlink main m.o f.o @lib/out/g.o to m5\nshare f.o @lib/out/g.o to s.so", "m.src", mainText, "f.src", fText)
	b := built(t, api.Distribution{lib, app})
	mm, ff, gg := api.Member{Name: "app/m.o", Object: m}, api.Member{Name: "app/f.o", Object: f}, api.Member{Name: "lib/out/g.o", Object: g}
	so, _, e := link.Share([]api.Member{{Name: "lib/g.o", Object: g}})
	if e != api.OK {
		t.Fatal(e)
	}
	libs := []api.Library{{Path: "lib/out/l.so", Binary: so}}
	fa, ga, other := api.Shelf{Path: "app/f.a", Members: []api.Member{ff, gg, mm}}, api.Shelf{Path: "app/g.a", Members: []api.Member{gg}}, api.Shelf{Path: "lib/out/g.a", Members: []api.Member{{Name: "lib/g.o", Object: g}}}
	link := func(objects []api.Member, shelves []api.Shelf, libs []api.Library) string {
		b, r, e := link.Link("main", objects, shelves, libs)
		return bytesOf(t, b, r, e)
	}
	share := func(objects ...api.Member) string {
		b, r, e := shareOf(objects)
		return bytesOf(t, b, r, e)
	}
	archive, e := object.Pack(fa.Members)
	if e != api.OK {
		t.Fatal(e)
	}
	for path, want := range map[string]string{
		"app/f.a":      archive,
		"lib/out/l.so": share(api.Member{Name: "lib/g.o", Object: g}),
		"app/s.so":     share(ff, gg),
		"app/m1":       link([]api.Member{mm}, []api.Shelf{fa}, nil),
		"app/m2":       link([]api.Member{mm}, []api.Shelf{fa, ga}, libs),
		"app/m3":       link([]api.Member{mm, ff}, nil, libs),
		"app/m4":       link([]api.Member{mm, ff}, []api.Shelf{ga, other}, libs),
		"app/m5":       link([]api.Member{mm, ff, gg}, nil, nil),
	} {
		if s := data(t, b, path); s != want {
			t.Errorf("%s %q %q", path, s, want)
		}
	}
	for i, want := range [][]string{
		{"app/f.o", "lib/out/g.o", "app/m.o"},
		{"lib/out/g.o"},
		{"app/m.o", "app/f.a"},
		{"app/m.o", "app/f.a", "app/g.a", "lib/out/l.so"},
		{"app/m.o", "app/f.o", "lib/out/l.so"},
		{"app/m.o", "app/f.o", "app/g.a", "lib/out/l.so", "lib/out/g.a"},
		{"app/m.o", "app/f.o", "lib/out/g.o"},
		{"app/f.o", "lib/out/g.o"},
	} {
		if l := readPaths(b.Record[:i+9]); !slices.Equal(l, want) {
			t.Error(i, l)
		}
	}
}

// shareOf is link.Share, also where its name is taken.
func shareOf(objects []api.Member) (api.Binary, api.LinkReading, api.Errno) {
	return link.Share(objects)
}

// P15.1: runs with and without libraries, with the second file as input, and with a file that is read twice.
func TestRuns(t *testing.T) {
	d := one("compile e.src to e.o\ncompile g.src to g.o\nshare g.o to g.so\nlink main e.o g.o to e1\nlink main e.o using g.so to e2\nrun e1 on in to o1\nrun e2 using g.so on in to o2\nrun e1 on e1 to o3\nrun e1 using g.so on empty to o4\nrun e2 using g.so on g.so to o5", "e.src", echoText, "g.src", gText, "in", "b\x00c", "empty", "")
	b := built(t, d)
	for path, want := range map[string]string{
		"app/o1": "b\x00cA", "app/o2": "b\x00cA", "app/o3": data(t, b, "app/e1") + "A", "app/o4": "A", "app/o5": data(t, b, "app/g.so") + "A",
	} {
		if s := data(t, b, path); s != want {
			t.Errorf("%s %q", path, s)
		}
	}
	for i, want := range [][]string{
		{"app/e1", "app/in"},
		{"app/e2", "app/in", "app/g.so"},
		{"app/e1"},
		{"app/e1", "app/empty", "app/g.so"},
		{"app/e2", "app/g.so"},
	} {
		if l := readPaths(b.Record[:i+6]); !slices.Equal(l, want) {
			t.Error(i, l)
		}
	}
}

// P15.1: patches, copies and installations.
func TestTexts(t *testing.T) {
	d := api.Distribution{
		pack("a", "patch x with p to y\ncopy y to d/z\ninstall d/z as z\npatch p with p2 to p3\ninstall x as o/x", "x", "a\nb", "p", "keep 1\ndrop 1\nadd 2\nx\ny", "p2", "base "+strings.Repeat("0", 64)+"\nkeep 5"),
	}
	if b, f := Build(d); f != fault(api.ErrMismatch, 3) || !isZero(b) {
		t.Error(f)
	}
	d = api.Distribution{
		pack("a", "patch x with p to y\ncopy y to d/z\ninstall d/z as z\ninstall x as o/x\npatch x with p to q", "x", "a\nb", "p", "keep 1\ndrop 1\nadd 2\nx\ny"),
		pack("b", "patch @a/o/x with p to y\ncopy @a/z to z\ninstall @a/z as a\ninstall z as b", "p", "drop 2\nadd 1\nx"),
	}
	b := built(t, d)
	for path, want := range map[string]string{
		"a/y": "a\nx\ny", "a/d/z": "a\nx\ny", "a/z": "a\nx\ny", "a/o/x": "a\nb", "a/q": "a\nx\ny", "b/y": "x", "b/z": "a\nx\ny", "b/a": "a\nx\ny", "b/b": "a\nx\ny",
	} {
		if s := data(t, b, path); s != want {
			t.Errorf("%s %q", path, s)
		}
	}
	if !slices.Equal(b.Installed, []string{"a/o/x", "a/z", "b/a", "b/b"}) {
		t.Error(b.Installed)
	}
	for i, want := range [][]string{{"a/x", "a/p"}, {"a/y"}, {"a/d/z"}, {"a/x"}, {"a/x", "a/p"}, {"a/o/x", "b/p"}, {"a/z"}, {"a/z"}, {"b/z"}} {
		if l := readPaths(b.Record[:i+1]); !slices.Equal(l, want) {
			t.Error(i, l)
		}
	}
}

// P15.1: files that are read several times are recorded once, where they were read first.
func TestReadTwice(t *testing.T) {
	b := built(t, one("patch p with p to q\ncompile s to s.o", "p", "keep 1", "s", "include i\ninclude j\ninclude i", "i", "", "j", "include i"))
	if r := b.Record[0]; !slices.Equal(r.Reads, []api.Touch{touch("app/p", "keep 1")}) || data(t, b, "app/q") != "keep 1" {
		t.Error(r)
	}
	if l := readPaths(b.Record); !slices.Equal(l, []string{"app/s", "app/i", "app/j"}) {
		t.Error(l)
	}
}
