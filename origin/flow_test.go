package origin

import (
	"slices"
	"strings"
	"testing"

	"licit/api"
	"licit/sample"
)

// P19.3: lines that a patch keeps, drops and adds, and its other lines; with a base, and with a last line feed.
func TestPatches(t *testing.T) {
	p := pack("a", "patch x with p to y\npatch y with q to z", "x", "a\nb\nc\n", "p", "drop 1\nadd 2\nd\nkeep 1\nkeep 2\ndrop 1", "q", "keep 4")
	x := traced(t, p)
	expectSegments(t, x, "a/y", api.ArtifactText, "a/y a/y:0 a/y:1 a/y:2 a/y:3")
	expect(t, x, 0,
		"a/y < a/p, a/p:0, a/p:1, a/p:4, a/p:5, a/x",
		"a/y:0 < a/p, a/p:2",
		"a/y:1 < a/p, a/p:3",
		"a/y:2 < a/x, a/x:1",
		"a/y:3 < a/x, a/x:2",
	)
	expect(t, x, 1,
		"a/z < a/q, a/q:0, a/y",
		"a/z:0 < a/y, a/y:0", "a/z:1 < a/y, a/y:1", "a/z:2 < a/y, a/y:2", "a/z:3 < a/y, a/y:3",
	)
	// the digest of the empty string
	empty := "a7ffc6f8bf1ed76651c14756a061d662f580ff4de43b49fa82d80a4b80f8434a"
	x = traced(t, pack("a", "patch x with p to y", "x", "", "p", "base "+empty+"\nkeep 1\nadd 1\n"))
	expect(t, x, 0, "a/y < a/p, a/p:0, a/p:1, a/p:2, a/x", "a/y:0 < a/x, a/x:0", "a/y:1 < a/p, a/p:3")
}

// P19.3: a file that is its own patch: flows by two reads stand there once.
func TestPatchOfItself(t *testing.T) {
	x := traced(t, pack("a", "patch p with p to y", "p", "keep 3\nadd 1\nx"))
	expect(t, x, 0, "a/y < a/p, a/p:0, a/p:1", "a/y:0 < a/p, a/p:0", "a/y:1 < a/p, a/p:1", "a/y:2 < a/p, a/p:2", "a/y:3 < a/p, a/p:2")
}

// P19.3: an object is no text: whatever is read of it takes all of it. What is written is a text again.
func TestPatchOfObject(t *testing.T) {
	x := traced(t, pack("a", "compile f.src to f.o\npatch f.o with p to g.o", "f.src", "export fn f 0\nexport data d 1\n7", "p", "keep 1\nadd 1\n"))
	expectSegments(t, x, "a/g.o", api.ArtifactText, "a/g.o a/g.o:0 a/g.o:1")
	expect(t, x, 1,
		"a/g.o < a/f.o, a/f.o#0, a/f.o#1, a/p, a/p:0, a/p:1",
		"a/g.o:0 < a/f.o, a/f.o#0, a/f.o#1",
		"a/g.o:1 < a/p, a/p:2",
	)
}

// P19.3: an object comes from the heads of all files, and a section from the lines that were read for it, too.
func TestCompilations(t *testing.T) {
	lib := pack("lib", "install h.src as out/h.src", "h.src", lines("define two 1", "2", "note 1", "?", "when big 2", "weak data big 1", "two", "fn none 1", "?"))
	app := pack("app", lines("compile m.src to m.o", "compile m.src to n.o with big", "compile e.src to e.o", "patch m.src with p to k.src", "compile k.src to k.o"),
		"m.src", lines("include @lib/out/h.src", "include d/f.src", "export fn m 4", "if 0 1", "out 1", "out two", "do help", ""),
		"d/f.src", lines("fn help x 1", "return x"),
		"e.src", "",
		"p", lines("keep 4", "drop 1", "add 1", "out 2", "keep 3"))
	x := traced(t, lib, app)
	heads := []string{"app/d/f.src", "app/d/f.src:0", "app/m.src", "app/m.src:0", "app/m.src:1", "app/m.src:2", "app/m.src:7", "lib/out/h.src", "lib/out/h.src:0", "lib/out/h.src:2", "lib/out/h.src:4", "lib/out/h.src:7"}
	with := func(to string, own ...string) string {
		l := append(slices.Clone(heads), own...)
		slices.Sort(l)
		return to + " < " + strings.Join(l, ", ")
	}
	body := []string{"app/m.src:3", "app/m.src:5", "app/m.src:6", "lib/out/h.src:1"}
	expectSegments(t, x, "app/m.o", api.ArtifactObject, "app/m.o app/m.o#0 app/m.o#1")
	expect(t, x, 1, with("app/m.o"), with("app/m.o#0", body...), with("app/m.o#1", "app/d/f.src:1"))
	heads = append(heads, "lib/out/h.src:5")
	expect(t, x, 2, with("app/n.o"), with("app/n.o#0", "lib/out/h.src:6", "lib/out/h.src:1"), with("app/n.o#1", body...), with("app/n.o#2", "app/d/f.src:1"))
	expect(t, x, 3, "app/e.o < app/e.src, app/e.src:0")
	heads = heads[:len(heads)-1]
	for i, path := range heads {
		heads[i] = strings.Replace(path, "m.src", "k.src", 1)
	}
	expect(t, x, 5, with("app/k.o"), with("app/k.o#0", "app/k.src:3", "app/k.src:5", "app/k.src:6", "lib/out/h.src:1"), with("app/k.o#1", "app/d/f.src:1"))
}

// three is a package with three units: main needs f, which needs g; one has data, too.
func three(recipe ...string) api.Package {
	return pack("a", lines(append([]string{"compile m.src to m.o", "compile f.src to f.o", "compile g.src to g.o"}, recipe...)...),
		"m.src", lines("extern f", "export fn main 1", "out f ( )"),
		"f.src", lines("extern g", "export data d 1", "1", "export fn f 1", "return g ( )"),
		"g.src", lines("export fn g 1", "return 65"))
}

// P19.3: the members of an archive come from their objects, part by part.
func TestArchives(t *testing.T) {
	x := traced(t, three("archive g.o f.o to l.a", "copy l.a to c.a", "archive m.o to m.a"))
	expectSegments(t, x, "a/l.a", api.ArtifactArchive, "a/l.a!a/g.o a/l.a!a/g.o#0 a/l.a!a/f.o a/l.a!a/f.o#0 a/l.a!a/f.o#1")
	expect(t, x, 3, "a/l.a!a/g.o < a/g.o", "a/l.a!a/g.o#0 < a/g.o#0", "a/l.a!a/f.o < a/f.o", "a/l.a!a/f.o#0 < a/f.o#0", "a/l.a!a/f.o#1 < a/f.o#1")
	expect(t, x, 4, "a/c.a!a/g.o < a/l.a!a/g.o", "a/c.a!a/g.o#0 < a/l.a!a/g.o#0", "a/c.a!a/f.o < a/l.a!a/f.o", "a/c.a!a/f.o#0 < a/l.a!a/f.o#0", "a/c.a!a/f.o#1 < a/l.a!a/f.o#1")
	expect(t, x, 5, "a/m.a!a/m.o < a/m.o", "a/m.a!a/m.o#0 < a/m.o#0")
}

// P19.3: the table and the export list of a library come from all heads, and a section from that of its object, too, whatever its index there is.
func TestLibraries(t *testing.T) {
	x := traced(t, three("share g.o f.o to l.so"))
	// the places are d, f and g, in the order of the symbols
	expectSegments(t, x, "a/l.so", api.ArtifactLibrary, "a/l.so a/l.so[] a/l.so#0 a/l.so#1 a/l.so#2")
	expect(t, x, 3,
		"a/l.so < a/f.o, a/g.o",
		"a/l.so[] < a/f.o, a/g.o",
		"a/l.so#0 < a/f.o, a/f.o#0, a/g.o",
		"a/l.so#1 < a/f.o, a/f.o#1, a/g.o",
		"a/l.so#2 < a/f.o, a/g.o, a/g.o#0",
	)
}

// P19.3: a program that is linked from objects alone; sections that are not selected do not matter.
func TestLinkObjects(t *testing.T) {
	x := traced(t, three("link main m.o f.o g.o to bin"))
	expectSegments(t, x, "a/bin", api.ArtifactBinary, "a/bin a/bin#0 a/bin#1 a/bin#2")
	expect(t, x, 3,
		"a/bin < a/f.o, a/g.o, a/m.o",
		"a/bin#0 < a/f.o, a/g.o, a/m.o, a/m.o#0",
		"a/bin#1 < a/f.o, a/f.o#1, a/g.o, a/m.o",
		"a/bin#2 < a/f.o, a/g.o, a/g.o#0, a/m.o",
	)
}

// P19.3: members of archives whose tables were read, and libraries whose export lists were read; those behind them do not matter.
func TestLinkArchives(t *testing.T) {
	x := traced(t, three(
		"archive g.o f.o m.o to l.a", "archive f.o to f.a", "share g.o to l.so", "share g.o to k.so",
		"link main m.o using l.so l.a f.a to one",
		"link main m.o using f.a l.so k.so to two",
		"link main m.o f.o g.o using f.a l.so to none",
	))
	expect(t, x, 7,
		"a/one < a/l.a!a/f.o, a/l.a!a/g.o, a/m.o",
		"a/one#0 < a/l.a!a/f.o, a/l.a!a/g.o, a/m.o, a/m.o#0",
		"a/one#1 < a/l.a!a/f.o, a/l.a!a/f.o#1, a/l.a!a/g.o, a/m.o",
		"a/one#2 < a/l.a!a/f.o, a/l.a!a/g.o, a/l.a!a/g.o#0, a/m.o",
	)
	expect(t, x, 8,
		"a/two < a/f.a!a/f.o, a/l.so[] list, a/m.o",
		"a/two#0 < a/f.a!a/f.o, a/l.so[] list, a/m.o, a/m.o#0",
		"a/two#1 < a/f.a!a/f.o, a/f.a!a/f.o#1, a/l.so[] list, a/m.o",
	)
	expect(t, x, 9,
		"a/none < a/f.o, a/g.o, a/m.o",
		"a/none#0 < a/f.o, a/g.o, a/m.o, a/m.o#0",
		"a/none#1 < a/f.o, a/f.o#1, a/g.o, a/m.o",
		"a/none#2 < a/f.o, a/g.o, a/g.o#0, a/m.o",
	)
}

// bytesOf returns the bytes of the objects f and g of three, of an archive of f, and of a library of g, named as if they were of a package.
func bytesOf(t *testing.T) (f, g, archive, library string) {
	t.Helper()
	x := traced(t, three("archive f.o to l.a", "share g.o to l.so"))
	data := map[string]string{}
	for _, file := range x.Built().Files {
		data[file.Path] = file.Data
	}
	return data["a/f.o"], data["a/g.o"], data["a/l.a"], data["a/l.so"]
}

// P19.3: files with the bytes of objects, archives and libraries that no step has written are texts: each read takes all of them.
func TestFilesOfOtherKinds(t *testing.T) {
	f, g, archive, library := bytesOf(t)
	for _, data := range []string{f, g, archive, library} {
		if strings.Contains(data, "\n") {
			t.Fatalf("%q", data)
		}
	}
	b := pack("b", lines("compile m.src to m.o", "archive f.o m.o to a", "share g.o f.o to so", "link main m.o f.o g.o to p1", "link main m.o using l.a l.so to p2", "link main m.o f.o using l.a l.so to p3", "link main m.o f.o g.o using l.a l.so to p4"),
		"m.src", lines("extern f", "export fn main 1", "out f ( )"), "f.o", f, "g.o", g, "l.a", archive, "l.so", library)
	x := traced(t, b)
	expect(t, x, 1, "b/a!b/f.o < b/f.o, b/f.o:0", "b/a!b/f.o#0 < b/f.o, b/f.o:0", "b/a!b/f.o#1 < b/f.o, b/f.o:0", "b/a!b/m.o < b/m.o", "b/a!b/m.o#0 < b/m.o#0")
	all := "b/f.o, b/f.o:0, b/g.o, b/g.o:0"
	expect(t, x, 2, "b/so < "+all, "b/so[] < "+all, "b/so#0 < "+all, "b/so#1 < "+all, "b/so#2 < "+all)
	expect(t, x, 3, "b/p1 < "+all+", b/m.o", "b/p1#0 < "+all+", b/m.o, b/m.o#0", "b/p1#1 < "+all+", b/m.o", "b/p1#2 < "+all+", b/m.o")
	// all of both directly, and all of the library by its export list
	using := "b/l.a, b/l.a:0, b/l.so, b/l.so list, b/l.so:0, b/l.so:0 list, b/m.o"
	expect(t, x, 4, "b/p2 < "+using, "b/p2#0 < "+using+", b/m.o#0", "b/p2#1 < "+using)
	using = "b/f.o, b/f.o:0, " + using
	expect(t, x, 5, "b/p3 < "+using, "b/p3#0 < "+using+", b/m.o#0", "b/p3#1 < "+using)
	// nothing of both is needed, but their kinds are not known without reading them
	using = "b/f.o, b/f.o:0, b/g.o, b/g.o:0, b/l.a, b/l.a:0, b/l.so, b/l.so:0, b/m.o"
	expect(t, x, 6, "b/p4 < "+using, "b/p4#0 < "+using+", b/m.o#0", "b/p4#1 < "+using, "b/p4#2 < "+using)
}

// echo is a program that outputs its input.
const echo = "export fn main 4\nlet c = in ( )\nwhile c != 4294967295 2\nout c\nset c = in ( )"

// P19.3: all of the output of a run comes from all of the program and the libraries, and from all of the input.
func TestRuns(t *testing.T) {
	p := three(
		"compile e.src to e.o", "archive g.o f.o to l.a", "share g.o to g.so",
		"link main e.o to echo", "link main m.o f.o using g.so to shared",
		"run echo on text to t1", "run shared using g.so on empty to t2", "run shared using g.so on g.so to t3", "run echo on echo to t4", "run echo on m.o to n.o", "run echo using g.so on l.a to k.a",
		"link main n.o using k.a to last",
	)
	p.Tree = append(api.Tree{{Path: "e.src", Data: echo}, {Path: "empty"}}, p.Tree...)
	p.Tree = append(p.Tree, api.File{Path: "text", Data: "x\ny\n"})
	x := traced(t, p)
	expectSegments(t, x, "a/shared", api.ArtifactBinary, "a/shared a/shared#0 a/shared#1")
	each := func(step int, to []string, from string) {
		t.Helper()
		var want []string
		for _, s := range to {
			want = append(want, s+" < "+from)
		}
		expect(t, x, step, want...)
	}
	each(8, []string{"a/t1", "a/t1:0", "a/t1:1", "a/t1:2"}, "a/echo by, a/echo#0 by, a/text, a/text:0, a/text:1, a/text:2")
	library := "a/g.so by, a/g.so#0 by, a/g.so[] by"
	program := "a/shared by, a/shared#0 by, a/shared#1 by"
	each(9, []string{"a/t2", "a/t2:0"}, "a/empty, a/empty:0, "+library+", "+program)
	// the same file as a library and as input: one flow on each route
	each(10, []string{"a/t3", "a/t3:0"}, "a/g.so, a/g.so by, a/g.so#0, a/g.so#0 by, a/g.so[], a/g.so[] by, "+program)
	var all []string
	for _, s := range x.Segments("a/t4") {
		all = append(all, sample.Show(s))
	}
	each(11, all, "a/echo, a/echo by, a/echo#0, a/echo#0 by")
	// the bytes of an object and an archive that were made by a run are texts
	each(12, []string{"a/n.o", "a/n.o:0"}, "a/echo by, a/echo#0 by, a/m.o, a/m.o#0")
	each(13, []string{"a/k.a", "a/k.a:0"}, "a/echo by, a/echo#0 by, "+library+", a/l.a!a/f.o, a/l.a!a/f.o#0, a/l.a!a/f.o#1, a/l.a!a/g.o, a/l.a!a/g.o#0")
	each(14, []string{"a/last", "a/last#0", "a/last#1", "a/last#2"}, "a/k.a, a/k.a:0, a/n.o, a/n.o:0")
}
