package build

import (
	"maps"
	"slices"
	"strings"
	"testing"

	"licit/api"
	"licit/object"
	"licit/tree"
)

// files returns a tree, of paths and data in turn.
func files(parts ...string) api.Tree {
	data := map[string]string{}
	for i := 0; i < len(parts); i += 2 {
		data[parts[i]] = parts[i+1]
	}
	var t api.Tree
	for _, p := range slices.Sorted(maps.Keys(data)) {
		t = append(t, api.File{Path: p, Data: data[p]})
	}
	return t
}

// pack returns a package with a recipe and files.
func pack(name, recipe string, parts ...string) api.Package {
	return api.Package{Name: name, Version: "1", Recipe: "recipe", Tree: files(append([]string{"recipe", recipe}, parts...)...)}
}

// one returns the distribution of one package app.
func one(recipe string, parts ...string) api.Distribution {
	return api.Distribution{pack("app", recipe, parts...)}
}

// example is that of the chapter.
func example() api.Distribution {
	return one("compile main.src to main.o\nlink main main.o to main.bin\ncopy recipe to x\nrun main.bin on recipe to y\ninstall y as out/y", "main.src", "export fn main 1\nout 65")
}

// built builds a distribution that can be built.
func built(t *testing.T, d api.Distribution) api.Built {
	t.Helper()
	b, f := Build(d)
	if f != (api.Fault{}) {
		t.Fatal(f)
	}
	return b
}

// data returns the data of a file that was built.
func data(t *testing.T, b api.Built, path string) string {
	t.Helper()
	s, found := tree.Find(b.Files, path)
	if !found {
		t.Fatal(path)
	}
	return s
}

// sameBuilt says whether two results are the same.
func sameBuilt(a, b api.Built) bool {
	return slices.Equal(a.Files, b.Files) && slices.Equal(a.Installed, b.Installed) && slices.EqualFunc(a.Record, b.Record, sameDone)
}

// sameDone says whether two records of a step are the same.
func sameDone(x, y api.Done) bool {
	return x.Package == y.Package && x.Line == y.Line && x.Kind == y.Kind && x.Wrote == y.Wrote && slices.Equal(x.Reads, y.Reads)
}

// isZero says whether nothing was built.
func isZero(b api.Built) bool { return b.Files == nil && b.Installed == nil && b.Record == nil }

// paths of the files of a tree.
func pathsOf(t api.Tree) []string {
	var l []string
	for _, f := range t {
		l = append(l, f.Path)
	}
	return l
}

// readPaths returns the paths that the last step of a build has read.
func readPaths(r api.Record) []string {
	var l []string
	for _, x := range r[len(r)-1].Reads {
		l = append(l, x.Path)
	}
	return l
}

// words returns the bytes of an object with an exported symbol for each of some data, all of it zero.
func words(t *testing.T, sizes map[string]int) string {
	t.Helper()
	var o api.Object
	for i, name := range slices.Sorted(maps.Keys(sizes)) {
		o.Symbols = append(o.Symbols, api.Symbol{Name: name, Mode: api.Export, Section: i})
		o.Sections = append(o.Sections, api.Section{Kind: api.SectionData, Data: strings.Repeat("\x00", sizes[name])})
	}
	s, e := object.Encode(o)
	if e != api.OK {
		t.Fatal(e)
	}
	return s
}

// fault returns the fault of a step of the first package.
func fault(e api.Errno, step int) api.Fault {
	return api.Fault{Error: e, Step: step, At: api.Line{N: -1}}
}
