package build

import (
	"fmt"
	"slices"
	"strings"
	"testing"

	"licit/api"
	"licit/digest"
)

// many returns a distribution with some packages, of which the last one has the given number of files more than the one that each has.
func many(packages, more int) api.Distribution {
	var d api.Distribution
	for i := range packages {
		d = append(d, pack(fmt.Sprintf("p%d", i), ""))
	}
	var parts []string
	for i := range more {
		parts = append(parts, fmt.Sprintf("f%d", i), "")
	}
	if packages > 0 {
		d[packages-1] = pack(d[packages-1].Name, "", parts...)
	}
	return d
}

// long returns a path of a number of bytes.
func long(n int) string {
	s := ""
	for len(s)+33 < n {
		s += strings.Repeat("a", 31) + "/"
	}
	return s + strings.Repeat("b", n-len(s))
}

// changed returns a valid distribution of two packages, the second one of which is changed.
func changed(f func(p *api.Package)) api.Distribution {
	d := api.Distribution{pack("lib", "copy recipe to x", "z", ""), pack("app", "copy recipe to x", "dir/f", "", "z", "")}
	f(&d[1])
	return d
}

// distributions returns some, with the error of Check.
func distributions() []struct {
	d api.Distribution
	e api.Errno
} {
	deep := "a/b/c/d/e/f/g"
	set := func(name, version, recipe string) func(p *api.Package) {
		return func(p *api.Package) { p.Name, p.Version, p.Recipe = name, version, recipe }
	}
	add := func(path string) func(p *api.Package) {
		return func(p *api.Package) { p.Tree = files("recipe", "", path, "") }
	}
	big := strings.Repeat("x", api.MaxData)
	return []struct {
		d api.Distribution
		e api.Errno
	}{
		{nil, api.OK},
		{api.Distribution{}, api.OK},
		{example(), api.OK},
		{changed(func(p *api.Package) {}), api.OK},
		{many(api.MaxPackages, 0), api.OK},
		{many(api.MaxPackages+1, 0), api.ErrTooLarge},
		{many(1, api.MaxFiles-1), api.OK},
		{many(1, api.MaxFiles), api.ErrArg}, // this is not a tree any more
		{many(2, api.MaxFiles-2), api.OK},
		{many(2, api.MaxFiles-1), api.ErrTooLarge},
		{many(api.MaxPackages, api.MaxFiles-api.MaxPackages), api.OK},
		{many(api.MaxPackages, api.MaxFiles-api.MaxPackages+1), api.ErrTooLarge},
		// names and versions
		{changed(set("", "1", "recipe")), api.ErrName},
		{changed(set("A", "1", "recipe")), api.ErrName},
		{changed(set("a/b", "1", "recipe")), api.ErrName},
		{changed(set(".a", "1", "recipe")), api.ErrName},
		{changed(set("-a", "1", "recipe")), api.ErrName},
		{changed(set("a b", "1", "recipe")), api.ErrName},
		{changed(set(strings.Repeat("a", api.MaxName), "1", "recipe")), api.OK},
		{changed(set(strings.Repeat("a", api.MaxName+1), "1", "recipe")), api.ErrName},
		{changed(set("a-b_c.0", "0.1-x", "recipe")), api.OK},
		{changed(set("app", "", "recipe")), api.ErrName},
		{changed(set("app", "V", "recipe")), api.ErrName},
		{changed(set("app", "1/2", "recipe")), api.ErrName},
		{changed(set("app", ".1", "recipe")), api.ErrName},
		{changed(set("app", strings.Repeat("1", api.MaxName), "recipe")), api.OK},
		{changed(set("app", strings.Repeat("1", api.MaxName+1), "recipe")), api.ErrName},
		{changed(set("lib", "1", "recipe")), api.ErrTwice},
		{changed(set("lib", "2", "recipe")), api.ErrTwice},
		{changed(set("lib2", "1", "recipe")), api.OK},
		// recipes
		{changed(set("app", "1", "dir/f")), api.OK},
		{changed(set("app", "1", "")), api.ErrNotFound},
		{changed(set("app", "1", "recip")), api.ErrNotFound},
		{changed(set("app", "1", "app/recipe")), api.ErrNotFound},
		{changed(set("app", "1", "dir")), api.ErrNotFound},
		{changed(set("app", "1", "RECIPE")), api.ErrNotFound},
		{changed(func(p *api.Package) { p.Tree = nil }), api.ErrNotFound},
		{changed(func(p *api.Package) { p.Tree = nil; p.Recipe = "" }), api.ErrNotFound},
		// trees
		{changed(func(p *api.Package) { slices.Reverse(p.Tree) }), api.ErrArg},
		{changed(func(p *api.Package) { p.Tree = append(p.Tree, p.Tree[2]) }), api.ErrArg},
		{changed(add("Z")), api.ErrArg},
		{changed(add("recipe/x")), api.ErrArg},
		{changed(add("")), api.ErrArg},
		{changed(func(p *api.Package) { p.Tree = files("recipe", "", "x", big) }), api.OK},
		{changed(func(p *api.Package) { p.Tree = files("recipe", "", "x", big+"x") }), api.ErrArg},
		// full paths
		{changed(add(deep)), api.OK},
		{changed(add(deep + "/h")), api.ErrName},
		{changed(add(long(api.MaxPath - len("app/")))), api.OK},
		{changed(add(long(api.MaxPath - len("app/") + 1))), api.ErrName},
		{changed(add(long(api.MaxPath))), api.ErrName},
		// two errors at once
		{append(many(api.MaxPackages, 0), pack("A", "")), api.ErrTooLarge},
		{api.Distribution{pack("A", ""), pack("A", "")}, api.ErrName},
		{changed(set("lib", "V", "recipe")), api.ErrName},
		{changed(func(p *api.Package) { p.Name = "lib"; slices.Reverse(p.Tree) }), api.ErrTwice},
		{changed(func(p *api.Package) { p.Tree = files("Z", "", deep+"/h", "") }), api.ErrArg},
		{changed(func(p *api.Package) { p.Tree = files(deep+"/h", "") }), api.ErrName},
		{append(many(1, api.MaxFiles-1), api.Package{Name: "q", Version: "1", Recipe: "recipe", Tree: files("x", "")}), api.ErrNotFound},
		{append(many(2, api.MaxFiles-1), pack("A", "")), api.ErrTooLarge},
		{append(api.Distribution{pack("A", "")}, many(2, api.MaxFiles-1)...), api.ErrName},
	}
}

// P15.1, P15.2: each condition of a valid distribution, and its opposite, for Check, New and Build.
func TestDistributions(t *testing.T) {
	for i, x := range distributions() {
		if e := Check(x.d); e != x.e {
			t.Error(i, e, x.e)
		}
		s, e := New(x.d)
		if e != x.e || (s == nil) != (e != api.OK) {
			t.Error(i, e, x.e)
		}
		if x.e == api.OK {
			continue
		}
		b, f := Build(x.d)
		if want := (api.Fault{Error: x.e, Package: -1, Step: -1, At: api.Line{N: -1}}); f != want || !isZero(b) {
			t.Error(i, f)
		}
	}
}

// touch returns a file that was read or written.
func touch(path, data string) api.Touch { return api.Touch{Path: path, Digest: digest.Sum(data)} }

// P15.1: the example of the chapter.
func TestExample(t *testing.T) {
	d := example()
	b := built(t, d)
	if s := data(t, b, "app/out/y"); s != "A" {
		t.Errorf("%q", s)
	}
	if !slices.Equal(b.Installed, []string{"app/out/y"}) {
		t.Error(b.Installed)
	}
	if l := pathsOf(b.Files); !slices.Equal(l, []string{"app/main.bin", "app/main.o", "app/main.src", "app/out/y", "app/recipe", "app/x", "app/y"}) {
		t.Error(l)
	}
	recipe, main := d[0].Tree[1].Data, d[0].Tree[0].Data
	o, bin := data(t, b, "app/main.o"), data(t, b, "app/main.bin")
	want := api.Record{
		{Package: 0, Line: 0, Kind: api.StepCompile, Reads: []api.Touch{touch("app/main.src", main)}, Wrote: touch("app/main.o", o)},
		{Package: 0, Line: 1, Kind: api.StepLink, Reads: []api.Touch{touch("app/main.o", o)}, Wrote: touch("app/main.bin", bin)},
		{Package: 0, Line: 2, Kind: api.StepCopy, Reads: []api.Touch{touch("app/recipe", recipe)}, Wrote: touch("app/x", recipe)},
		{Package: 0, Line: 3, Kind: api.StepRun, Reads: []api.Touch{touch("app/main.bin", bin), touch("app/recipe", recipe)}, Wrote: touch("app/y", "A")},
		{Package: 0, Line: 4, Kind: api.StepInstall, Reads: []api.Touch{touch("app/y", "A")}, Wrote: touch("app/out/y", "A")},
	}
	if !slices.EqualFunc(b.Record, want, sameDone) {
		t.Errorf("%+v", b.Record)
	}
}

// P15.1: nothing to build.
func TestNothing(t *testing.T) {
	if b := built(t, nil); !isZero(b) {
		t.Error(b)
	}
	d := api.Distribution{pack("b", "", "x", "1"), pack("a", "\n\n", "y", "2")}
	b := built(t, d)
	if l := pathsOf(b.Files); !slices.Equal(l, []string{"a/recipe", "a/y", "b/recipe", "b/x"}) || b.Installed != nil || b.Record != nil {
		t.Error(l, b.Installed, b.Record)
	}
	if s := data(t, b, "a/y"); s != "2" {
		t.Error(s)
	}
}

// P15.1: recipes that are no texts, and errors in later lines, which come before all steps of their package.
func TestRecipes(t *testing.T) {
	full := strings.Repeat("\n", api.MaxLines-1)
	var steps []string
	for i := range api.MaxFiles + 1 {
		steps = append(steps, fmt.Sprintf("copy recipe to f%d", i))
	}
	for i, x := range []struct {
		recipe string
		e      api.Errno
		step   int
	}{
		{full, api.OK, 0},
		{full + "\n", api.ErrTooLarge, -1},
		{full + "copy recipe to x", api.OK, 0},
		{full + "copy recipe", api.ErrSyntax, api.MaxLines - 1},
		{"copy recipe to x\n\n\nmake", api.ErrSyntax, 3},
		{"copy nothing to x\nmake", api.ErrSyntax, 1},
		{"copy recipe to X", api.ErrName, 0},
		{"copy recipe to a\ncompile recipe to o with x x", api.ErrTwice, 1},
		{strings.Join(steps, "\n"), api.ErrTooLarge, api.MaxFiles},
	} {
		b, f := Build(one(x.recipe))
		want := fault(x.e, x.step)
		if x.e == api.OK {
			want = api.Fault{}
		}
		if f != want || isZero(b) != (x.e != api.OK) {
			t.Error(i, f)
		}
		// behind a package that is built
		want.Package = 1
		if x.e == api.OK {
			want.Package = 0
		}
		if b, f := Build(api.Distribution{pack("lib", "copy recipe to x"), pack("app", x.recipe)}); f != want || isZero(b) != (x.e != api.OK) {
			t.Error(i, f)
		}
		// in front of one that has an error, too
		if x.e != api.OK {
			want.Package = 0
			if b, f := Build(api.Distribution{pack("app", x.recipe), pack("lib", "make")}); f != want || !isZero(b) {
				t.Error(i, f)
			}
		}
	}
}

// P15.1: a step of a package comes before the recipe of the next one.
func TestFirstPackage(t *testing.T) {
	d := api.Distribution{pack("a", "copy recipe to x\ncopy none to y"), pack("b", "make")}
	if b, f := Build(d); f != fault(api.ErrNotFound, 1) || !isZero(b) {
		t.Error(f)
	}
	d[0] = pack("a", "copy recipe to x")
	want := fault(api.ErrSyntax, 0)
	want.Package = 1
	if b, f := Build(d); f != want || !isZero(b) {
		t.Error(f)
	}
}
