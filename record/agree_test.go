package record

import (
	"math"
	"slices"
	"strings"
	"testing"

	"licit/api"
	"licit/digest"
)

// isEqual says whether two records are equal, by the plain words of the definition.
func isEqual(a, b api.Record) bool {
	return slices.EqualFunc(a, b, func(x, y api.Done) bool {
		return x.Package == y.Package && x.Line == y.Line && x.Kind == y.Kind && x.Wrote == y.Wrote && slices.Equal(x.Reads, y.Reads)
	})
}

// kept returns the files of the example, whose data are their paths.
func kept(paths ...string) api.Tree {
	var t api.Tree
	for _, p := range paths {
		t = append(t, api.File{Path: p, Data: p})
	}
	return t
}

// P17.4: trees that agree with the example, and trees that do not; the first file decides.
func TestAgrees(t *testing.T) {
	other := func(path string) api.File { return api.File{Path: path, Data: "other"} }
	for i, x := range []struct {
		t    api.Tree
		path string
		e    api.Errno
	}{
		{kept("a/b", "a/o", "a/x"), "", api.OK},
		{kept("a/a", "a/b", "a/o", "a/x", "z"), "", api.OK},
		{nil, "a/x", api.ErrNotFound},
		{api.Tree{}, "a/x", api.ErrNotFound},
		{kept("a/b", "a/o"), "a/x", api.ErrNotFound},
		{kept("a/b", "a/x"), "a/o", api.ErrNotFound},
		{kept("a/o", "a/x"), "a/b", api.ErrNotFound},
		{api.Tree{{Path: "a/b", Data: "a/b"}, {Path: "a/o", Data: "a/o"}, other("a/x")}, "a/x", api.ErrMismatch},
		{api.Tree{{Path: "a/b", Data: "a/b"}, other("a/o"), {Path: "a/x", Data: "a/x"}}, "a/o", api.ErrMismatch},
		{api.Tree{other("a/b"), {Path: "a/o", Data: "a/o"}, {Path: "a/x", Data: "a/x"}}, "a/b", api.ErrMismatch},
		{api.Tree{other("a/b"), {Path: "a/o", Data: ""}, {Path: "a/x", Data: "a/x"}}, "a/o", api.ErrMismatch},
		// a lack and another digest: the file that is touched first
		{api.Tree{other("a/b"), other("a/x")}, "a/x", api.ErrMismatch},
		{api.Tree{other("a/b"), other("a/o")}, "a/x", api.ErrNotFound},
		{append(kept("a/x"), other("a/b")), "a/o", api.ErrNotFound},
		// lists of files that are not trees: two files with one path, no order, no paths
		{append(kept("a/x", "a/o", "a/b"), other("a/x"), other("a/b")), "", api.OK},
		{append(api.Tree{other("a/b")}, kept("a/x", "a/o", "a/b")...), "a/b", api.ErrMismatch},
		{append(api.Tree{other("a/x")}, kept("a/x", "a/o", "a/b")...), "a/x", api.ErrMismatch},
		{append(api.Tree{other(""), other("A"), {Path: "z", Data: strings.Repeat("z", api.MaxData+1)}}, kept("a/x", "a/o", "a/b")...), "", api.OK},
	} {
		if p, e := Agrees(example(), x.t); p != x.path || e != x.e {
			t.Error(i, p, e)
		}
	}
}

// P17.4: among the files read the first one, and these before the one written.
func TestAgreesInOrder(t *testing.T) {
	r := api.Record{step(0, "a/b", "a/y", "a/x"), step(1, "a/a", "a/x", "a/w", "a/b")}
	order := []string{"a/y", "a/x", "a/b", "a/w", "a/a"}
	for n := range len(order) {
		if p, e := Agrees(r, kept(order[:n]...)); p != order[n] || e != api.ErrNotFound {
			t.Error(n, p, e)
		}
		files := kept(order...)
		for i := range files[n:] {
			files[n+i].Data = "other"
		}
		if p, e := Agrees(r, files); p != order[n] || e != api.ErrMismatch {
			t.Error(n, p, e)
		}
	}
	if p, e := Agrees(r, kept(order...)); p != "" || e != api.OK {
		t.Error(p, e)
	}
	if p, e := Agrees(nil, nil); p != "" || e != api.OK {
		t.Error(p, e)
	}
}

// P17.4: a record that is not valid comes before all files, and arguments stay as they are, behind the ends of their slices too.
func TestAgreesArguments(t *testing.T) {
	for i, r := range invalidRecords() {
		for _, files := range []api.Tree{nil, kept("a/x", "a/y", "a/z", "a/o", "a/b", "a/c")} {
			if p, e := Agrees(r, files); p != "" || e != api.ErrArg {
				t.Error(i, p, e)
			}
		}
	}
	reads := files("a/x", "guard")
	r := api.Record{step(0, "a/o", "a/x")}
	r[0].Reads = reads[:1]
	tree := kept("a/x", "a/o", "a/x")
	if p, e := Agrees(r, tree); p != "" || e != api.OK || reads[1] != file("guard") || !slices.Equal(tree, kept("a/x", "a/o", "a/x")) {
		t.Error(p, e, reads, tree)
	}
}

// P17.5: records that part at a step, that end, and that are equal; valid or not.
func TestDiverge(t *testing.T) {
	change := func(i int, f func(s *api.Done)) api.Record {
		r := net()
		f(&r[i])
		return r
	}
	for i, x := range []struct {
		a, b api.Record
		want int
	}{
		{nil, nil, -1},
		{nil, api.Record{}, -1},
		{net(), net(), -1},
		{net(), nil, 0},
		{net(), net()[:1], 1},
		{net(), net()[:5], 5},
		{net(), example(), 1},
		{net(), change(0, func(s *api.Done) { s.Package = 1 }), 0},
		{net(), change(1, func(s *api.Done) { s.Line = 9 }), 1},
		{net(), change(2, func(s *api.Done) { s.Kind = api.StepCopy }), 2},
		{net(), change(3, func(s *api.Done) { s.Reads[2].Digest = digest.Sum("other") }), 3},
		{net(), change(3, func(s *api.Done) { s.Reads[0].Path = "other" }), 3},
		{net(), change(3, func(s *api.Done) { s.Reads[0], s.Reads[1] = s.Reads[1], s.Reads[0] }), 3},
		{net(), change(3, func(s *api.Done) { s.Reads = s.Reads[:2] }), 3},
		{net(), change(3, func(s *api.Done) { s.Reads = append(s.Reads, file("a/w")) }), 3},
		{net(), change(4, func(s *api.Done) { s.Wrote.Path = "other" }), 4},
		{net(), change(5, func(s *api.Done) { s.Wrote.Digest = "" }), 5},
		// those behind the first one do not count
		{append(net()[:2:2], step(0, "a/q", "a/x")), append(net()[:2:2], step(0, "a/p", "a/x"), step(9, "", "")), 2},
		// not valid
		{api.Record{{}}, api.Record{{}}, -1},
		{api.Record{{}}, api.Record{{Reads: []api.Touch{}}}, -1},
		{api.Record{{}}, api.Record{{Reads: []api.Touch{{}}}}, 0},
		{api.Record{{}, {Package: math.MinInt}}, api.Record{{}, {Package: math.MaxInt}}, 1},
		{api.Record{{}, {}}, api.Record{{}}, 1},
		{many(api.MaxList + 1), many(api.MaxList + 1), -1},
		{many(api.MaxList + 1), many(api.MaxList + 2), api.MaxList + 1},
	} {
		a, b := copyOf(x.a), copyOf(x.b)
		if n := Diverge(x.a, x.b); n != x.want {
			t.Error(i, n)
		}
		if n := Diverge(x.b, x.a); n != x.want {
			t.Error(i, n)
		}
		if !isEqual(a, x.a) || !isEqual(b, x.b) {
			t.Error(i)
		}
	}
}
