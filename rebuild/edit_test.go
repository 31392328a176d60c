package rebuild

import (
	"fmt"
	"math"
	"slices"
	"strings"
	"testing"

	"licit/api"
	"licit/sample"
)

// two is a distribution of two packages whose order is not that of their names, with files of all sorts of lines.
func two() api.Distribution {
	return api.Distribution{
		pack("b", []string{"install x as o", "copy x to y"}, "x", "1\n2\n3", "empty", "", "feed", "\n", "dir/x", "a\nb\n"),
		pack("a", []string{"install @b/o as o"}, "x", "4\n5"),
	}
}

// P22.1: first and last lines, lines without a last line feed, empty files, recipes, files of any package, and the same text again.
func TestEdit(t *testing.T) {
	for _, x := range []struct {
		path       string
		n          int
		text, want string
	}{
		{"b/x", 0, "9", "9\n2\n3"}, {"b/x", 1, "", "1\n\n3"}, {"b/x", 2, "9 9", "1\n2\n9 9"}, {"b/x", 1, "2", "1\n2\n3"},
		{"b/empty", 0, "q", "q"}, {"b/empty", 0, "", ""},
		{"b/feed", 0, "q", "q\n"}, {"b/feed", 1, "q", "\nq"},
		{"b/dir/x", 0, "q", "q\nb\n"}, {"b/dir/x", 2, "\r\x00\xff", "a\nb\n\r\x00\xff"},
		{"a/x", 1, "9", "4\n9"},
		{"b/recipe", 1, "nothing", "install x as o\nnothing"}, {"a/recipe", 0, "", ""},
	} {
		d := edited(t, two(), edit(x.path, x.n, x.text))
		if got := data(t, d, x.path); got != x.want {
			t.Errorf("%s %d: %q", x.path, x.n, got)
		}
		// all else is the same
		for i, p := range two() {
			if d[i].Name != p.Name || d[i].Version != p.Version || d[i].Recipe != p.Recipe || len(d[i].Tree) != len(p.Tree) {
				t.Error(d[i])
			}
			for j, f := range p.Tree {
				if g := d[i].Tree[j]; g.Path != f.Path || g.Data != f.Data && p.Name+"/"+f.Path != x.path {
					t.Error(x.path, g)
				}
			}
		}
	}
}

// P22.1: several edits, in any order, of several files; and none.
func TestEdits(t *testing.T) {
	l := []api.Edit{edit("a/x", 0, "d"), edit("b/x", 2, "a"), edit("b/x", 0, "b"), edit("b/dir/x", 1, "c"), edit("b/empty", 0, "e")}
	want := edited(t, two(), l...)
	for path, text := range map[string]string{"b/x": "b\n2\na", "b/dir/x": "a\nc\n", "a/x": "d\n5", "b/empty": "e", "b/feed": "\n"} {
		if data(t, want, path) != text {
			t.Error(path)
		}
	}
	for range l {
		l = append(l[1:], l[0])
		if d := edited(t, two(), l...); !equal(d, want) {
			t.Error(l, d)
		}
	}
	slices.Reverse(l)
	if d := edited(t, two(), l...); !equal(d, want) {
		t.Error(l, d)
	}
	for _, none := range [][]api.Edit{nil, {}} {
		if d, e := Edit(two(), none); e != api.OK || !equal(d, two()) {
			t.Error(d, e)
		}
		for _, empty := range []api.Distribution{nil, {}} {
			if d, e := Edit(empty, none); e != api.OK || len(d) != 0 {
				t.Error(d, e)
			}
		}
	}
}

// P22.1: the first fault of the edits, one by one; of one edit the one that the chapter names first.
func TestEditFaults(t *testing.T) {
	good := edit("b/x", 1, "q")
	none, far, feed := edit("b/none", 0, "q"), edit("b/x", 3, "q"), edit("b/x", 0, "q\n")
	for i, x := range []struct {
		l    []api.Edit
		want api.Errno
	}{
		{[]api.Edit{none}, api.ErrNotFound}, {[]api.Edit{far}, api.ErrRange}, {[]api.Edit{feed}, api.ErrSyntax}, {[]api.Edit{good, good}, api.ErrTwice},
		{[]api.Edit{edit("b/x", -1, "q")}, api.ErrRange}, {[]api.Edit{edit("b/x", math.MaxInt, "")}, api.ErrRange}, {[]api.Edit{edit("b/x", math.MinInt, "")}, api.ErrRange},
		{[]api.Edit{edit("b/empty", 1, "")}, api.ErrRange}, {[]api.Edit{edit("b/feed", 2, "")}, api.ErrRange}, {[]api.Edit{edit("b/feed", 1, "\n")}, api.ErrSyntax},
		// paths that are not full ones, or not paths; files that a step writes
		{[]api.Edit{edit("x", 0, "")}, api.ErrNotFound}, {[]api.Edit{edit("", 0, "")}, api.ErrNotFound}, {[]api.Edit{edit("b", 0, "")}, api.ErrNotFound}, {[]api.Edit{edit("b/", 0, "")}, api.ErrNotFound},
		{[]api.Edit{edit("b/dir", 0, "")}, api.ErrNotFound}, {[]api.Edit{edit("@b/x", 0, "")}, api.ErrNotFound}, {[]api.Edit{edit("b//x", 0, "")}, api.ErrNotFound}, {[]api.Edit{edit("a/dir/x", 0, "")}, api.ErrNotFound},
		{[]api.Edit{edit("b/o", 0, "")}, api.ErrNotFound}, {[]api.Edit{edit("b/y", 0, "")}, api.ErrNotFound}, {[]api.Edit{edit("c/x", 0, "")}, api.ErrNotFound},
		// several faults of one edit
		{[]api.Edit{edit("b/none", -1, "\n")}, api.ErrNotFound}, {[]api.Edit{edit("b/x", 3, "\n")}, api.ErrRange}, {[]api.Edit{good, edit("b/x", 1, "\n")}, api.ErrSyntax},
		// the first edit with a fault decides
		{[]api.Edit{good, good, none}, api.ErrTwice}, {[]api.Edit{feed, far, none}, api.ErrSyntax}, {[]api.Edit{far, feed, none}, api.ErrRange}, {[]api.Edit{good, none, good}, api.ErrNotFound},
		{[]api.Edit{good, edit("b/x", 0, "q"), edit("a/x", 1, "q"), good}, api.ErrTwice},
		// the same text again is a fault all the same
		{[]api.Edit{edit("b/x", 1, "2"), edit("b/x", 1, "2")}, api.ErrTwice},
	} {
		if d, e := Edit(two(), x.l); e != x.want || d != nil {
			t.Error(i, x.l, e)
		}
	}
	// the same number in another file is another line
	edited(t, two(), good, edit("a/x", 1, "q"), edit("b/dir/x", 1, "q"))
}

// P22.1: a file has at most MaxData bytes with all edits; what it would have with some of them does not matter.
func TestTooLarge(t *testing.T) {
	long := strings.Repeat("x", api.MaxData-4)
	for i, x := range []struct {
		l    []api.Edit
		want api.Errno
	}{
		{[]api.Edit{edit("b/x", 0, long)}, api.OK},
		{[]api.Edit{edit("b/x", 0, long+"x")}, api.ErrTooLarge},
		{[]api.Edit{edit("b/x", 0, long+"x"), edit("b/x", 2, "")}, api.OK},
		{[]api.Edit{edit("b/x", 2, ""), edit("b/x", 0, long+"x")}, api.OK},
		{[]api.Edit{edit("b/x", 0, long), edit("b/x", 1, "22")}, api.ErrTooLarge},
		{[]api.Edit{edit("a/x", 1, long+"xx")}, api.OK},
		{[]api.Edit{edit("a/x", 1, long+"xxx")}, api.ErrTooLarge},
		{[]api.Edit{edit("b/empty", 0, long+"xxxx")}, api.OK},
		{[]api.Edit{edit("b/empty", 0, long+"xxxxx")}, api.ErrTooLarge},
		{[]api.Edit{edit("b/empty", 0, long+"xxxx"), edit("a/x", 1, long+"xx"), edit("b/x", 0, long)}, api.OK},
		// any fault of an edit comes before it
		{[]api.Edit{edit("b/x", 0, long+long), edit("b/none", 0, "")}, api.ErrNotFound},
		{[]api.Edit{edit("b/x", 0, long+long), edit("b/x", 3, "")}, api.ErrRange},
		{[]api.Edit{edit("b/x", 0, long+long), edit("b/x", 1, "\n")}, api.ErrSyntax},
		{[]api.Edit{edit("b/x", 0, long+long), edit("b/x", 0, "")}, api.ErrTwice},
	} {
		d, e := Edit(two(), x.l)
		if e != x.want || (e == api.OK) != (d != nil) {
			t.Error(i, e)
		}
	}
	// a file of MaxData bytes, of which each line can be replaced
	d := api.Distribution{pack("a", nil, "long", strings.Repeat("\n", api.MaxData))}
	if _, e := Edit(d, []api.Edit{edit("a/long", api.MaxData, "q")}); e != api.ErrTooLarge {
		t.Error(e)
	}
	edited(t, d, edit("a/long", api.MaxData, ""), edit("a/long", 0, ""))
	d[0].Tree[0].Data = d[0].Tree[0].Data[1:]
	if d := edited(t, d, edit("a/long", api.MaxData-1, "q")); !strings.HasSuffix(data(t, d, "a/long"), "\nq") {
		t.Error("last line")
	}
}

// P22.1: the edits between distributions, in the order of the full paths, not of the packages or of the paths within them.
func TestBetween(t *testing.T) {
	d := api.Distribution{
		pack("b", nil, "x", "1\n2\n3", "x-y", "", "recipe2", "k"),
		pack("a-b", nil, "x", "1\n2"),
		pack("a", nil, "x", strings.Repeat("\n", 11), "c", "\n"),
	}
	l := []api.Edit{
		edit("a-b/x", 0, "q"), edit("a/c", 1, "q"), edit("a/recipe", 0, "q"), edit("a/x", 0, "q"), edit("a/x", 2, "r"), edit("a/x", 10, "s"), edit("a/x", 11, "t"),
		edit("b/x", 2, ""), edit("b/x-y", 0, "q"),
	}
	if got, e := Between(d, edited(t, d, l...)); e != api.OK || !slices.Equal(got, l) {
		t.Errorf("%d %v", e, got)
	}
	back := slices.Clone(l)
	for i, x := range back {
		back[i].Text = strings.Split(data(t, d, x.At.Path), "\n")[x.At.N]
	}
	if got, e := Between(edited(t, d, l...), d); e != api.OK || !slices.Equal(got, back) {
		t.Errorf("%d %v", e, got)
	}
	for _, x := range []api.Distribution{nil, {}, d, two(), sample.Factory()} {
		if got, e := Between(x, slices.Clone(x)); e != api.OK || got != nil {
			t.Error(got, e)
		}
	}
	// only the lines matter, not whether anything can be built, or how long files are
	long := api.Distribution{pack("a", []string{"?"}, "long", strings.Repeat("\n", api.MaxLines+7))}
	far := edit("a/long", api.MaxLines+7, "q")
	if got, e := Between(long, edited(t, long, far)); e != api.OK || !slices.Equal(got, []api.Edit{far}) {
		t.Error(got, e)
	}
}

// P22.1: distributions of another shape.
func TestMismatch(t *testing.T) {
	for i, change := range []func(d api.Distribution) api.Distribution{
		func(d api.Distribution) api.Distribution { return nil },
		func(d api.Distribution) api.Distribution { return d[:1] },
		func(d api.Distribution) api.Distribution { return append(d, pack("c", nil)) },
		func(d api.Distribution) api.Distribution { d[0], d[1] = d[1], d[0]; return d },
		func(d api.Distribution) api.Distribution { d[0].Name = "c"; return d },
		func(d api.Distribution) api.Distribution { d[1].Version = "2"; return d },
		func(d api.Distribution) api.Distribution { d[0].Recipe = "x"; return d },
		func(d api.Distribution) api.Distribution { d[1].Tree = d[1].Tree[:1]; return d },
		func(d api.Distribution) api.Distribution { d[1].Tree[1].Path = "y"; return d },
		func(d api.Distribution) api.Distribution {
			d[1].Tree = append(d[1].Tree, api.File{Path: "z"})
			return d
		},
		func(d api.Distribution) api.Distribution { d[1].Tree[1].Data += "\n"; return d },
		func(d api.Distribution) api.Distribution { d[1].Tree[1].Data = "4 5"; return d },
		func(d api.Distribution) api.Distribution { d[0].Tree[1].Data = "\n"; return d },
		func(d api.Distribution) api.Distribution { d[0].Tree[2].Data = ""; return d },
	} {
		d := change(two())
		if l, e := Between(two(), d); e != api.ErrMismatch || l != nil {
			t.Error(i, l, e)
		}
		if l, e := Between(d, two()); e != api.ErrMismatch || l != nil {
			t.Error(i, l, e)
		}
	}
	// the first distribution, then the second one, then their shape
	bad := func(name string) api.Distribution { return api.Distribution{pack(name, nil), pack(name, nil)} }
	for i, x := range []struct {
		a, b api.Distribution
		want api.Errno
	}{
		{bad("A"), bad("a"), api.ErrName}, {bad("a"), bad("A"), api.ErrTwice}, {two(), bad("A"), api.ErrName}, {bad("a"), two(), api.ErrTwice}, {bad("a"), bad("a"), api.ErrTwice},
		{make(api.Distribution, api.MaxPackages+1), bad("a"), api.ErrTooLarge},
	} {
		if l, e := Between(x.a, x.b); e != x.want || l != nil {
			t.Error(i, l, e)
		}
	}
}

// P22.1: arguments are not changed, and results share no memory with them.
func TestMemory(t *testing.T) {
	d, l := two(), []api.Edit{edit("b/x", 2, "q"), edit("a/x", 0, "r")}
	before := fmt.Sprintf("%q %v", d, l)
	x := edited(t, d, l...)
	between, _ := Between(d, x)
	Try(d, l, "b/o")
	Blame(d, l, "b/o")
	Sound(d, l, "b/o")
	Changed(d, l)
	if fmt.Sprintf("%q %v", d, l) != before {
		t.Error("changed")
	}
	after := fmt.Sprintf("%q", x)
	for i := range d {
		for j := range d[i].Tree {
			d[i].Tree[j] = api.File{}
		}
		d[i] = api.Package{}
	}
	for i := range between {
		between[i] = api.Edit{}
	}
	if fmt.Sprintf("%q", x) != after {
		t.Error("shared")
	}
}
