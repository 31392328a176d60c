package origin

import (
	"fmt"
	"math"
	"slices"
	"strings"
	"testing"

	"licit/api"
	"licit/build"
	"licit/sample"
)

// example is that of the chapter.
func example() api.Package { return sample.Example()[0] }

// P19.2, P19.3: the example of the chapter.
func TestExample(t *testing.T) {
	x := traced(t, example())
	expectSegments(t, x, "app/y", api.ArtifactText, "app/y app/y:0 app/y:1")
	expect(t, x, 0,
		"app/y < app/p, app/p:0, app/p:1, app/p:2, app/x",
		"app/y:0 < app/x, app/x:0",
		"app/y:1 < app/p, app/p:3",
	)
	expect(t, x, 1, "app/z < app/y", "app/z:0 < app/y:0", "app/z:1 < app/y:1")
	for step := range 2 {
		if l := x.Recipes(step); !slices.Equal(l, api.Lines{sp("app/recipe", 0, 2)}) {
			t.Error(step, l)
		}
	}
}

// noSteps says whether a tracer has no steps with some indices, and no file with some paths.
func noSteps(t *testing.T, x *Tracer, steps []int, paths []string) {
	t.Helper()
	for _, step := range steps {
		if x.Flows(step) != nil || x.Recipes(step) != nil {
			t.Error(step)
		}
	}
	for _, path := range paths {
		if x.Artifact(path) != 0 || x.Segments(path) != nil {
			t.Error(path)
		}
	}
}

// P19.3: a nil tracer, a tracer of nothing, and the empty distribution have neither files nor steps.
func TestNothing(t *testing.T) {
	for i, x := range []*Tracer{nil, {}, traced(t)} {
		if b := x.Built(); b.Files != nil || b.Installed != nil || b.Record != nil {
			t.Error(i, b)
		}
		noSteps(t, x, []int{-1, 0, 1, math.MaxInt, math.MinInt}, []string{"", "app/x", "app/recipe", "app", "/"})
	}
}

// P19.2, P19.3: indices of steps, and paths, that are just outside.
func TestOutside(t *testing.T) {
	x := traced(t, example())
	noSteps(t, x, []int{-1, 2, 3, math.MaxInt, math.MinInt}, []string{"", "app", "app/", "x", "app/w", "app/x/", "@app/x", "app/xx", "lib/x"})
	if len(x.Flows(0)) == 0 || len(x.Flows(1)) == 0 {
		t.Error("steps")
	}
}

// P19.2: with the fault of the build there is no tracer.
func TestFaults(t *testing.T) {
	good := example()
	bad := good
	bad.Name = "A"
	for i, x := range []struct {
		d    api.Distribution
		want api.Fault
	}{
		{api.Distribution{bad}, api.Fault{Error: api.ErrName, Package: -1, Step: -1, At: api.Line{N: -1}}},
		{api.Distribution{good, good}, api.Fault{Error: api.ErrTwice, Package: -1, Step: -1, At: api.Line{N: -1}}},
		{make(api.Distribution, api.MaxPackages+1), api.Fault{Error: api.ErrTooLarge, Package: -1, Step: -1, At: api.Line{N: -1}}},
		{api.Distribution{good, pack("b", "\nmake x")}, api.Fault{Error: api.ErrSyntax, Package: 1, Step: 1, At: api.Line{N: -1}}},
		{api.Distribution{good, pack("b", "copy recipe to x\ncopy y to z")}, api.Fault{Error: api.ErrNotFound, Package: 1, Step: 1, At: api.Line{N: -1}}},
		{api.Distribution{good, pack("b", "copy recipe to x\n\ncompile s to z", "s", "note 1\n\nwhat")}, api.Fault{Error: api.ErrSyntax, Package: 1, Step: 2, At: api.Line{Path: "b/s", N: 2}}},
	} {
		_, f := build.Build(x.d)
		if y, g := New(x.d); g != x.want || f != g || y != nil {
			t.Error(i, f, g)
		}
	}
}

// texts with and without a last line feed, and files that no step wrote, whatever their bytes are.
func TestTexts(t *testing.T) {
	x := traced(t, pack("a", "copy e to c\ninstall n as o/i\npatch e with p to q", "e", "", "n", "\n", "t", "x\ny", "u", "x\ny\n", "o.o", "6:object,0;0;", "o.a", "7:archive,0;", "r", "\r\r", "p", "keep 1"))
	for path, n := range map[string]int{"e": 1, "n": 2, "t": 2, "u": 3, "o.o": 1, "o.a": 1, "r": 1, "p": 1, "c": 1, "o/i": 2, "q": 1, "recipe": 3} {
		want := "a/" + path
		for i := range n {
			want += fmt.Sprintf(" a/%s:%d", path, i)
		}
		expectSegments(t, x, "a/"+path, api.ArtifactText, want)
	}
}

// P19.2: a file of more than MaxLines lines, which is no text, has a segment for each of them, and so has its copy.
func TestLongFiles(t *testing.T) {
	const n = api.MaxLines + 10
	x := traced(t, pack("a", "copy long to c", "long", strings.Repeat("\n", n-1)))
	for _, path := range []string{"a/long", "a/c"} {
		l := x.Segments(path)
		if len(l) != n+1 || l[0] != (api.Segment{Path: path, Kind: api.SegmentFile}) || l[n] != (api.Segment{Path: path, Kind: api.SegmentLine, Index: n - 1}) {
			t.Error(path, len(l))
		}
	}
	flows := x.Flows(0)
	if len(flows) != n+1 || flows[n] != (api.Flow{To: x.Segments("a/c")[n], From: x.Segments("a/long")[n], Route: api.RouteIn}) {
		t.Error(len(flows))
	}
}

// tool is a package that makes each kind of artifact, and copies and installs it.
func tool() api.Package {
	recipe := []string{
		"compile m.src to m.o", "compile f.src to f.o", "compile e.src to e.o",
		"archive f.o e.o to l.a", "share f.o to l.so", "link main m.o using l.a to bin", "link main m.o using l.so to bin2",
		"run bin on in to out", "patch in with p to in2",
	}
	for _, path := range []string{"m.src", "f.o", "e.o", "l.a", "l.so", "bin", "out", "in2"} {
		recipe = append(recipe, "copy "+path+" to c/"+path, "install c/"+path+" as i/"+path)
	}
	return pack("a", lines(recipe...),
		"m.src", lines("extern f", "export fn main 2", "out f ( )", "out 10"),
		"f.src", lines("export fn f 1", "return 65 + load ( d )", "export data d 1", "0"),
		"e.src", "extern nothing", "in", "x\n", "p", "keep 2")
}

// P19.2: the kinds and segments of all artifacts, and those of their copies.
func TestKinds(t *testing.T) {
	x := traced(t, tool())
	for _, dir := range []string{"a/", "a/c/", "a/i/"} {
		for _, y := range []struct {
			path string
			kind int
			want string
		}{
			{"m.src", api.ArtifactText, "@ @:0 @:1 @:2 @:3"},
			{"f.o", api.ArtifactObject, "@ @#0 @#1"},
			{"e.o", api.ArtifactObject, "@"},
			{"l.a", api.ArtifactArchive, "@!a/f.o @!a/f.o#0 @!a/f.o#1 @!a/e.o"},
			{"l.so", api.ArtifactLibrary, "@ @[] @#0 @#1"},
			{"bin", api.ArtifactBinary, "@ @#0 @#1 @#2"},
			{"out", api.ArtifactText, "@ @:0 @:1"},
			{"in2", api.ArtifactText, "@ @:0 @:1"},
		} {
			expectSegments(t, x, dir+y.path, y.kind, strings.ReplaceAll(y.want, "@", dir+y.path))
		}
	}
	expectSegments(t, x, "a/bin2", api.ArtifactBinary, "a/bin2 a/bin2#0")
}

// P19.3: a copy comes from its original segment by segment, also if it is installed.
func TestCopies(t *testing.T) {
	x := traced(t, tool())
	for i, path := range []string{"m.src", "f.o", "e.o", "l.a", "l.so", "bin", "out", "in2"} {
		for j, y := range []struct{ from, to string }{{"a/" + path, "a/c/" + path}, {"a/c/" + path, "a/i/" + path}} {
			flows := x.Flows(9 + 2*i + j)
			from, to := x.Segments(y.from), x.Segments(y.to)
			if len(from) != len(to) || len(flows) != len(to) {
				t.Fatal(y, len(from), len(to), len(flows))
			}
			for n := range flows {
				if flows[n] != (api.Flow{To: to[n], From: from[n], Route: api.RouteIn}) {
					t.Error(y, flows[n])
				}
			}
		}
	}
}

// P19.3: the lines of the recipes, in the order of their paths: of the package, and of those before it, whether they have steps or not.
func TestRecipes(t *testing.T) {
	empty := pack("m", "")
	third := pack("a", "\n\n\ncopy x to y\n", "x", "")
	third.Recipe = "d/make"
	third.Tree = api.Tree{{Path: "d/make", Data: "\ncopy recipe to y\n\ncopy y to z\n"}, {Path: "recipe"}}
	x := traced(t, pack("z", "copy recipe to x\ninstall x as y"), empty, third, pack("b", "copy recipe to x"))
	z, m, a, b := sp("z/recipe", 0, 2), sp("m/recipe", 0, 1), sp("a/d/make", 0, 5), sp("b/recipe", 0, 1)
	for i, want := range []api.Lines{{z}, {z}, {a, m, z}, {a, m, z}, {a, b, m, z}} {
		if l := x.Recipes(i); !slices.Equal(l, want) {
			t.Error(i, l)
		}
	}
	if l := x.Recipes(5); l != nil {
		t.Error(l)
	}
}

// P19.2: Built returns what Build returns, and results share no memory with what the tracer knows.
func TestBuilt(t *testing.T) {
	d := api.Distribution{tool(), example()}
	x := traced(t, d...)
	want, _ := build.Build(d)
	before := fmt.Sprint(want)
	for range 2 {
		b := x.Built()
		if fmt.Sprint(b) != before {
			t.Fatal(b)
		}
		for i := range b.Record {
			b.Record[i].Reads[0].Path, b.Record[i].Line = "q", 99
		}
		b.Files[0].Path, b.Installed[0] = "q", "q"
		for step := range len(b.Record) {
			flows, again := x.Flows(step), x.Flows(step)
			flows[0].Route = 7
			recipes := x.Recipes(step)
			recipes[0].Path = "q"
			if again[0].Route == 7 || x.Flows(step)[0] != again[0] || x.Recipes(step)[0].Path == "q" {
				t.Error(step)
			}
		}
		x.Segments("a/l.a")[0].Path = "q"
		if x.Segments("a/l.a")[0].Path != "a/l.a" {
			t.Error("Segments")
		}
	}
}

// P19.2: a distribution that is changed later does not change its tracer, and building it does not change the distribution.
func TestDistributionIsKept(t *testing.T) {
	d := api.Distribution{tool(), example()}
	x := traced(t, d...)
	if fmt.Sprint(d) != fmt.Sprint(api.Distribution{tool(), example()}) {
		t.Error("changed")
	}
	var before []string
	for step := range len(x.Built().Record) {
		before = append(before, showFlows(x.Flows(step))...)
	}
	d[0].Name = "q"
	for i := range d[1].Tree {
		d[1].Tree[i] = api.File{}
	}
	d[1] = api.Package{}
	var after []string
	for step := range len(x.Built().Record) {
		after = append(after, showFlows(x.Flows(step))...)
	}
	if !slices.Equal(before, after) {
		t.Error("not kept")
	}
}
