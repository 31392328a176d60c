package influence

import (
	"fmt"
	"slices"
	"strings"
	"testing"

	"licit/api"
	"licit/build"
)

// P20.1 to P20.3: the example of the chapter.
func TestExample(t *testing.T) {
	expect(t, example(), "app/z", "app/p 0-3, app/x 0", "app/recipe 0-1")
	expectMarks(t, example(), "app/z", "app/z < app/p 0-2", "app/z:0 < app/x 0", "app/z:1 < app/p 3")
	if l, f := Idle(example()); f != (api.Fault{}) || set(l) != "app/x 1" {
		t.Error(l, f)
	}
}

// P20.1: files that no step has written: the file comes from nothing, and each line from itself.
func TestMarksOfSources(t *testing.T) {
	expectMarks(t, example(), "app/x", "app/x < ", "app/x:0 < app/x 0", "app/x:1 < app/x 1")
	expectMarks(t, example(), "app/recipe", "app/recipe < ", "app/recipe:0 < app/recipe 0", "app/recipe:1 < app/recipe 1")
	expectMarks(t, factory(), "app/in", "app/in < ", "app/in:0 < app/in 0")
}

// P20.1: the segments of each kind of artifact, on the three routes.
func TestMarks(t *testing.T) {
	d := factory()
	gen := " by lib/gen.src 0, lib/gen.src 2-6"
	expectMarks(t, d, "lib/gen.o", "lib/gen.o < lib/gen.src 0, lib/gen.src 2", "lib/gen.o#0 < lib/gen.src 0, lib/gen.src 2-6")
	expectMarks(t, d, "app/f.src",
		"app/f.src < app/f.txt 0-4"+gen, "app/f.src:0 < app/f.txt 0-4"+gen, "app/f.src:1 < app/f.txt 0-4"+gen,
		"app/f.src:2 < app/f.txt 0-4"+gen, "app/f.src:3 < app/f.txt 0-4"+gen, "app/f.src:4 < app/f.txt 0-4"+gen)
	expectMarks(t, d, "app/l.a",
		"app/l.a!app/f.o < app/f.txt 0-4"+gen, "app/l.a!app/f.o#0 < app/f.txt 0-4"+gen, "app/l.a!app/f.o#1 < app/f.txt 0-4"+gen,
		"app/l.a!app/m.o < app/m.src 0-1", "app/l.a!app/m.o#0 < app/m.src 0-3")
	expectMarks(t, d, "lib/g.so", "lib/g.so < lib/g.src 0, lib/g.src 2", "lib/g.so[] < lib/g.src 0, lib/g.src 2", "lib/g.so#0 < lib/g.src 0-2", "lib/g.so#1 < lib/g.src 0, lib/g.src 2-3")
	// the list of g.so tells that g is there; all members of l.a were asked
	list := gen + " list lib/g.src 0, lib/g.src 2"
	expectMarks(t, d, "app/out/bin",
		"app/out/bin < app/f.txt 0-4, app/m.src 0-1"+list,
		"app/out/bin#0 < app/f.txt 0-4, app/m.src 0-3"+list,
		"app/out/bin#1 < app/f.txt 0-4, app/m.src 0-1"+list)
	// what stands behind a run comes by it, whatever the route was before it
	by := "app/in 0 by app/f.txt 0-4, app/m.src 0-3, lib/g.src 0-3, lib/gen.src 0, lib/gen.src 2-6"
	expectMarks(t, d, "app/text", "app/text < "+by, "app/text:0 < "+by)
}

// P20.2: outputs of each kind, those that no step has changed, and their sections.
func TestOf(t *testing.T) {
	d := factory()
	recipes := "app/recipe 0-11, lib/recipe 0-5"
	gen := " by lib/gen.src 0, lib/gen.src 2-6"
	list := gen + " list lib/g.src 0, lib/g.src 2"
	expect(t, d, "app/out/bin",
		"app/f.txt 0-4, app/m.src 0-3"+list, recipes,
		"app/m.o main: app/f.txt 0-4, app/m.src 0-3"+list,
		"app/f.txt 0-4, app/m.src 0-1"+list,
		"app/l.a!app/f.o f: app/f.txt 0-4, app/m.src 0-1"+list,
		"app/f.txt 0-4, app/m.src 0-3"+list)
	expect(t, d, "app/out/l.a", "app/f.txt 0-4, app/m.src 0-3"+gen, recipes)
	expect(t, d, "app/out/m.o", "app/m.src 0-3", recipes)
	expect(t, d, "app/out/text", "app/in 0 by app/f.txt 0-4, app/m.src 0-3, lib/g.src 0-3, lib/gen.src 0, lib/gen.src 2-6", recipes)
	expect(t, d, "app/out/f.src", "app/f.txt 0-4"+gen, recipes)
	expect(t, d, "app/out/in", "app/in 0", recipes)
	expect(t, d, "lib/out/gen", "lib/gen.src 0, lib/gen.src 2-6", "lib/recipe 0-5", "lib/gen.o main: lib/gen.src 0, lib/gen.src 2-6", "lib/gen.src 0, lib/gen.src 2")
	expect(t, d, "lib/out/g.so", "lib/g.src 0-3", "lib/recipe 0-5",
		"lib/g.o g: lib/g.src 0-2", "lib/g.src 0, lib/g.src 2",
		"lib/g.o h: lib/g.src 0, lib/g.src 2-3", "lib/g.src 0-2")
}

// P20.2: the influences of all installed files, in their order; none, if nothing is installed.
func TestAll(t *testing.T) {
	for _, d := range []api.Distribution{factory(), example(), nil, {pack("a", []string{"copy recipe to x"})}} {
		b, _ := build.Build(d)
		l, f := All(d)
		if f != (api.Fault{}) || len(l) != len(b.Installed) {
			t.Fatal(f, len(l))
		}
		for n, output := range b.Installed {
			i, f := Of(d, output)
			if f != (api.Fault{}) || i.Output != output || fmt.Sprint(i) != fmt.Sprint(l[n]) {
				t.Error(output, l[n])
			}
		}
	}
}

// P20.1 to P20.3: faults of builds come before paths, and paths that are no file, or not installed, have one of their own.
func TestFaults(t *testing.T) {
	bad := api.Distribution{example()[0], pack("b", []string{"copy recipe to x", "", "copy y to z"})}
	want := api.Fault{Error: api.ErrNotFound, Package: 1, Step: 2, At: api.Line{N: -1}}
	twice := append(example(), example()...)
	wantTwice := api.Fault{Error: api.ErrTwice, Package: -1, Step: -1, At: api.Line{N: -1}}
	for i, x := range []struct {
		d    api.Distribution
		want api.Fault
	}{{bad, want}, {twice, wantTwice}} {
		for _, path := range []string{"app/z", "app/x", "", "none"} {
			if l, f := Marks(x.d, path); f != x.want || l != nil {
				t.Error(i, path, f)
			}
			if y, f := Of(x.d, path); f != x.want || fmt.Sprint(y) != fmt.Sprint(api.Influence{}) {
				t.Error(i, path, f)
			}
		}
		if l, f := All(x.d); f != x.want || l != nil {
			t.Error(i, f)
		}
		if l, f := Idle(x.d); f != x.want || l != nil {
			t.Error(i, f)
		}
	}
	for _, path := range []string{"", "z", "app", "app/", "app/w", "lib/z", "@app/z", "A\n", "app/recipe", "app/x", "app/y"} {
		none := api.Fault{Error: api.ErrNotFound, Package: -1, Step: -1, At: api.Line{Path: path, N: -1}}
		// the last three are files, but they are not installed
		if l, f := Marks(example(), path); slices.Contains([]string{"app/recipe", "app/x", "app/y"}, path) != (f == api.Fault{}) || f != (api.Fault{}) && (f != none || l != nil) {
			t.Error(path, f)
		}
		if y, f := Of(example(), path); f != none || fmt.Sprint(y) != fmt.Sprint(api.Influence{}) {
			t.Error(path, f)
		}
		if l, f := Marks(nil, path); f != none || l != nil {
			t.Error(path, f)
		}
	}
}

// linesOf is an influence with lines on each route, and some on two or more.
func linesOf() api.Influence {
	return api.Influence{
		Output:  "app/z",
		Whole:   api.Origin{In: api.Lines{sp("a", 0, 3)}, By: api.Lines{sp("a", 2, 5)}, List: api.Lines{sp("a", 2, 3), sp("b", 0, 1)}},
		Recipes: api.Lines{sp("a", 2, 3), sp("r", 0, 2)},
	}
}

// spoiled returns influences whose Whole or Recipes is not valid.
func spoiled() []api.Influence {
	bad := api.Lines{sp("b", 0, 1), sp("a", 0, 1)}
	l := []api.Influence{linesOf(), linesOf(), linesOf(), linesOf()}
	l[0].Whole.In, l[1].Whole.By, l[2].Whole.List, l[3].Recipes = bad, bad, bad, bad
	return l
}

// P20.3: the lines of Whole and of Recipes; sections do not matter, even if they are not valid.
func TestLines(t *testing.T) {
	i := linesOf()
	i.Sections = []api.SectionInfluence{{Content: api.Origin{In: api.Lines{sp("c", 0, 1)}}, Layout: api.Origin{By: api.Lines{sp("A", 3, 1)}}}}
	if l, e := Lines(i); e != api.OK || set(l) != "a 0-4, b 0, r 0-1" {
		t.Error(l, e)
	}
	if l, e := Lines(api.Influence{}); e != api.OK || l != nil {
		t.Error(l, e)
	}
	if l, e := Lines(api.Influence{Recipes: api.Lines{sp("r", 0, 1)}}); e != api.OK || set(l) != "r 0" {
		t.Error(l, e)
	}
	for n, x := range spoiled() {
		if l, e := Lines(x); e != api.ErrArg || l != nil {
			t.Error(n, l, e)
		}
	}
}

// P20.3: lines on each of the four routes, on two at once, on all, and on none.
func TestRoutes(t *testing.T) {
	for _, x := range []struct {
		path string
		n    int
		want []int
	}{
		{"a", 0, []int{api.RouteIn}},
		{"a", 2, []int{api.RouteIn, api.RouteBy, api.RouteList, api.RouteRecipe}},
		{"a", 3, []int{api.RouteBy}},
		{"a", 5, nil},
		{"b", 0, []int{api.RouteList}},
		{"b", 1, nil},
		{"r", 1, []int{api.RouteRecipe}},
		{"r", 2, nil},
		{"r", -1, nil},
		{"", 0, nil},
	} {
		at := api.Line{Path: x.path, N: x.n}
		if l := Routes(linesOf(), at); !slices.Equal(l, x.want) {
			t.Error(at, l)
		}
		for n, i := range spoiled() {
			if l := Routes(i, at); l != nil {
				t.Error(n, at, l)
			}
		}
	}
	i, _ := Of(factory(), "app/out/bin")
	for _, x := range []struct {
		at   api.Line
		want []int
	}{
		{api.Line{Path: "app/m.src", N: 2}, []int{api.RouteIn}}, {api.Line{Path: "lib/gen.src", N: 3}, []int{api.RouteBy}}, {api.Line{Path: "lib/g.src", N: 2}, []int{api.RouteList}},
		{api.Line{Path: "lib/recipe", N: 0}, []int{api.RouteRecipe}}, {api.Line{Path: "lib/g.src", N: 3}, nil},
	} {
		if l := Routes(i, x.at); !slices.Equal(l, x.want) {
			t.Error(x.at, l)
		}
	}
}

// P20.3: the outputs that a line influences, in order, as often as they occur.
func TestTouches(t *testing.T) {
	l, _ := All(factory())
	for _, x := range []struct {
		path string
		n    int
		want string
	}{
		{"lib/recipe", 0, "app/out/bin app/out/f.src app/out/in app/out/l.a app/out/m.o app/out/text lib/out/g.so lib/out/gen"},
		{"app/recipe", 11, "app/out/bin app/out/f.src app/out/in app/out/l.a app/out/m.o app/out/text"},
		{"app/recipe", 12, ""},
		{"lib/g.src", 1, "app/out/text lib/out/g.so"},
		{"lib/g.src", 2, "app/out/bin app/out/text lib/out/g.so"},
		{"lib/gen.src", 1, ""},
		{"app/in", 0, "app/out/in app/out/text"},
		{"app/text", 0, ""},
	} {
		if got := strings.Join(Touches(l, api.Line{Path: x.path, N: x.n}), " "); got != x.want {
			t.Error(x.path, x.n, got)
		}
	}
	at := api.Line{Path: "a", N: 2}
	bad := spoiled()
	other := linesOf()
	other.Output = ""
	if got := Touches([]api.Influence{linesOf(), bad[0], {}, other, bad[3], linesOf()}, at); !slices.Equal(got, []string{"app/z", "", "app/z"}) {
		t.Error(got)
	}
	if got := Touches(nil, at); got != nil {
		t.Error(got)
	}
}

// P20.3: lines that are not read, files that nothing reads, and files that are read for nothing that is installed.
func TestIdle(t *testing.T) {
	for i, x := range []struct {
		d    api.Distribution
		want string
	}{
		{nil, ""},
		{factory(), "lib/gen.src 1"},
		// no outputs: all lines, those of the recipes, too
		{api.Distribution{pack("b", []string{"copy x to y"}, "x", "1\n"), pack("a", nil, "e", "")}, "a/e 0, a/recipe 0, b/recipe 0, b/x 0-1"},
		// a file that nothing reads, one that is read for what is not installed, and the recipe of a later package
		{api.Distribution{pack("b", []string{"copy x to y", "install x as z"}, "x", "1", "n", "2\n\n"), pack("a", []string{"copy q to r"}, "q", "3")}, "a/q 0, a/recipe 0, b/n 0-2"},
		// idle lines of a file that is read, and a written file is none of the trees
		{api.Distribution{pack("b", []string{"compile s to o", "install o as z"}, "s", lines("note 2", "?", "?", "fn f 1", "?", "when q 1", "?"))}, "b/s 1-2, b/s 4, b/s 6"},
	} {
		if l, f := Idle(x.d); f != (api.Fault{}) || set(l) != x.want {
			t.Error(i, set(l), f)
		}
	}
}

// P20.1, P20.3: of a file with more than MaxLines lines only those can be in a set that are valid.
func TestLongFiles(t *testing.T) {
	d := api.Distribution{pack("a", []string{"copy long to c", "install c as o"}, "long", strings.Repeat("\n", api.MaxLines+9), "other", strings.Repeat("\n", api.MaxLines))}
	expect(t, d, "a/o", fmt.Sprintf("a/long 0-%d", api.MaxLines-1), "a/recipe 0-1")
	l, f := Marks(d, "a/o")
	if f.Error != api.OK || len(l) != api.MaxLines+11 {
		t.Fatal(len(l), f)
	}
	if last := showMarks(l[api.MaxLines:]); last[0] != "a/o:1023 < a/long 1023" || last[1] != "a/o:1024 < " {
		t.Error(last[:2])
	}
	if l, f := Idle(d); f.Error != api.OK || set(l) != "a/other 0-1023" {
		t.Error(l, f)
	}
	d = api.Distribution{pack("a", nil, "long", strings.Repeat("\n", api.MaxData))}
	if l, f := Idle(d); f.Error != api.OK || set(l) != "a/long 0-1023, a/recipe 0" {
		t.Error(l, f)
	}
}

// P20.2: the input and the output of a run may be as long as files can be.
func TestLongRuns(t *testing.T) {
	d := api.Distribution{pack("a", []string{"compile s to o", "link main o to bin", "run bin on in to t1", "run bin on t1 to t2", "install t2 as o2"},
		"s", lines("export fn main 7", "let n = 3750", "while n 5", "out 10", "out 10", "out 10", "out 10", "set n = n - 1"),
		"in", strings.Repeat("\n", api.MaxData))}
	expect(t, d, "a/o2", "a/in 0-1023 by a/s 0-7", "a/recipe 0-4")
}

// P20.1 to P20.3: arguments are not changed, and no two parts of a result share memory.
func TestMemory(t *testing.T) {
	d := factory()
	before := fmt.Sprint(d)
	l, _ := All(d)
	idle, _ := Idle(d)
	marks, _ := Marks(d, "app/f.src")
	if fmt.Sprint(d) != before {
		t.Error("changed")
	}
	// each set is overwritten in turn, and no other one may change
	var sets []*api.Lines
	sets = append(sets, &idle)
	add := func(o *api.Origin) { sets = append(sets, &o.In, &o.By, &o.List) }
	for i := range l {
		add(&l[i].Whole)
		sets = append(sets, &l[i].Recipes)
		for j := range l[i].Sections {
			add(&l[i].Sections[j].Content)
			add(&l[i].Sections[j].Layout)
		}
	}
	for i := range marks {
		add(&marks[i].Origin)
	}
	for i, x := range sets {
		whole := (*x)[:cap(*x)]
		for j := range whole {
			whole[j] = sp("Q", i, i)
		}
	}
	for i, x := range sets {
		for _, s := range *x {
			if s != sp("Q", i, i) {
				t.Fatal(i, s)
			}
		}
	}
	i := linesOf()
	text := fmt.Sprint(i)
	got, _ := Lines(i)
	for n := range got {
		got[n] = api.Span{}
	}
	if fmt.Sprint(i) != text {
		t.Error(i)
	}
}
