package rebuild

import (
	"slices"
	"strings"
	"testing"

	"licit/api"
	"licit/sample"
)

// P22.2 to P22.4: the example of the chapter.
func TestExample(t *testing.T) {
	d := sample.Example()
	l := []api.Edit{edit("app/x", 0, "q"), edit("app/x", 1, "r"), edit("app/p", 3, "s")}
	expectTry(t, d, "app/z", true, false, l...)
	expectTry(t, d, "app/z", true, false, l[:2]...)
	expectTry(t, d, "app/z", true, false, l[0])
	expectTry(t, d, "app/z", true, true, l[1])
	expectBlame(t, d, "app/z", l, 0)
	// the other way round the last one is left
	expectBlame(t, d, "app/z", []api.Edit{l[2], l[1], l[0]}, 0)
	if sound, e := Sound(d, l, "app/z"); !sound || e != api.OK {
		t.Error(sound, e)
	}
	if paths, e := Changed(d, l); e != api.OK || !slices.Equal(paths, []string{"app/z"}) {
		t.Error(paths, e)
	}
	if paths, e := Changed(d, l[1:2]); e != api.OK || len(paths) > 0 {
		t.Error(paths, e)
	}
}

// P22.2: trials that are not built, that are the same, and that are not; edits of recipes, too.
func TestTry(t *testing.T) {
	d := sample.Factory()
	for _, x := range []struct {
		output      string
		built, same bool
		l           []api.Edit
	}{
		{"app/out/text", true, true, nil},
		{"app/out/text", true, true, []api.Edit{edit("app/m.src", 2, "out f ( )")}},
		{"app/out/text", true, true, []api.Edit{edit("lib/gen.src", 1, "?")}},
		{"app/out/text", true, true, []api.Edit{edit("lib/g.src", 3, "8")}},
		{"lib/out/g.so", true, false, []api.Edit{edit("lib/g.src", 3, "8")}},
		{"app/out/text", true, false, []api.Edit{edit("lib/g.src", 1, "return 66")}},
		{"app/out/bin", true, true, []api.Edit{edit("lib/g.src", 1, "return 66")}},
		{"app/out/in", true, true, []api.Edit{edit("lib/g.src", 1, "return 66")}},
		{"app/out/in", true, false, []api.Edit{edit("app/in", 0, "q")}},
		// faults anywhere
		{"app/out/text", false, false, []api.Edit{edit("app/m.src", 2, "out f (")}},
		{"lib/out/gen", false, false, []api.Edit{edit("app/m.src", 2, "out f (")}},
		{"lib/out/gen", false, false, []api.Edit{edit("app/recipe", 11, "nothing")}},
		{"app/out/in", false, false, []api.Edit{edit("app/recipe", 11, "install none as out/in")}},
		// two edits that can be built together
		{"app/out/text", false, false, []api.Edit{edit("app/m.src", 0, "extern h")}},
		{"app/out/text", false, false, []api.Edit{edit("app/m.src", 2, "out h ( )")}},
		{"app/out/text", false, false, []api.Edit{edit("app/m.src", 0, "extern h"), edit("app/m.src", 2, "out h ( )")}},
		{"app/out/text", true, false, []api.Edit{edit("app/m.src", 0, "extern h"), edit("app/m.src", 2, "out load ( h )")}},
		// the output is not installed any more, or by another step, or with other data
		{"app/out/in", true, false, []api.Edit{edit("app/recipe", 11, "install in as out/other")}},
		{"app/out/in", true, false, []api.Edit{edit("app/recipe", 11, "copy in to out/in")}},
		{"app/out/in", true, false, []api.Edit{edit("app/recipe", 11, "")}},
		{"app/out/in", true, false, []api.Edit{edit("app/recipe", 11, "install m.src as out/in")}},
		{"app/out/in", true, true, []api.Edit{edit("app/recipe", 11, "install in as out/in")}},
		{"app/out/in", true, true, []api.Edit{edit("app/recipe", 10, "install in as out/in"), edit("app/recipe", 11, "install f.src as out/f.src")}},
		{"app/out/f.src", true, true, []api.Edit{edit("app/recipe", 11, "")}},
		{"lib/out/gen", true, true, []api.Edit{edit("app/recipe", 11, "install in as more")}},
	} {
		expectTry(t, d, x.output, x.built, x.same, x.l...)
	}
}

// P22.2: the outputs that change, in order; those that are not installed any more, but none that is new.
func TestChanged(t *testing.T) {
	d := sample.Factory()
	for i, x := range []struct {
		l    []api.Edit
		want string
	}{
		{nil, ""},
		{[]api.Edit{edit("lib/gen.src", 0, "note 1")}, ""},
		{[]api.Edit{edit("lib/gen.src", 1, "?")}, ""},
		{[]api.Edit{edit("lib/g.src", 1, "return 66")}, "app/out/text lib/out/g.so"},
		{[]api.Edit{edit("lib/g.src", 3, "8")}, "lib/out/g.so"},
		{[]api.Edit{edit("app/f.txt", 4, "return 4")}, "app/out/f.src app/out/l.a"},
		{[]api.Edit{edit("app/in", 0, "q"), edit("app/f.txt", 4, "return 4"), edit("lib/g.src", 3, "8")}, "app/out/f.src app/out/in app/out/l.a lib/out/g.so"},
		{[]api.Edit{edit("app/recipe", 11, "copy in to out/in")}, "app/out/in"},
		{[]api.Edit{edit("app/recipe", 11, "install in as a"), edit("app/recipe", 6, "")}, "app/out/bin app/out/in"},
		{[]api.Edit{edit("app/recipe", 11, "install m.src as out/in")}, "app/out/in"},
	} {
		paths, e := Changed(d, x.l)
		if e != api.OK || strings.Join(paths, " ") != x.want {
			t.Error(i, paths, e)
		}
	}
	if paths, e := Changed(nil, nil); e != api.OK || len(paths) > 0 {
		t.Error(paths, e)
	}
}

// P22.3: edits inside and outside of the influence, and in the recipes.
func TestSound(t *testing.T) {
	d := sample.Factory()
	for i, x := range []struct {
		output string
		l      []api.Edit
	}{
		{"app/out/text", nil},
		{"app/out/text", []api.Edit{edit("lib/g.src", 1, "return 66")}},
		{"app/out/bin", []api.Edit{edit("lib/g.src", 1, "return 66")}},
		{"app/out/bin", []api.Edit{edit("lib/g.src", 1, "return (")}},
		{"app/out/in", []api.Edit{edit("app/recipe", 11, "")}},
		{"lib/out/gen", []api.Edit{edit("app/recipe", 11, ""), edit("app/in", 0, "q")}},
		{"lib/out/gen", []api.Edit{edit("app/recipe", 11, ""), edit("lib/gen.src", 5, "out 7")}},
	} {
		if sound, e := Sound(d, x.l, x.output); !sound || e != api.OK {
			t.Error(i, sound, e)
		}
	}
	// no set can have a line behind MaxLines others: what such a line changes is no influence
	long := api.Distribution{pack("a", []string{"copy long to c", "install c as o", "install recipe as p"}, "long", strings.Repeat("\n", api.MaxLines+9))}
	inside, outside := edit("a/long", api.MaxLines-1, "q"), edit("a/long", api.MaxLines, "q")
	for i, x := range []struct {
		output string
		want   bool
		l      []api.Edit
	}{
		{"a/o", true, []api.Edit{inside}},
		{"a/o", false, []api.Edit{outside}},
		{"a/o", true, []api.Edit{outside, inside}},
		{"a/o", true, []api.Edit{inside, outside}},
		{"a/o", true, []api.Edit{edit("a/long", api.MaxLines, "")}},
		{"a/o", true, []api.Edit{outside, edit("a/recipe", 2, "install recipe as p")}},
		{"a/p", true, []api.Edit{outside}},
		{"a/o", false, []api.Edit{outside, edit("a/long", api.MaxLines+1, "")}},
	} {
		if sound, e := Sound(long, x.l, x.output); sound != x.want || e != api.OK {
			t.Error(i, sound, e)
		}
	}
}

// P22.4: edits that are needed together, that suffice alone, and that are not needed.
func TestBlame(t *testing.T) {
	d := sample.Factory()
	other, same := edit("lib/g.src", 3, "8"), edit("lib/gen.src", 1, "?")
	call, extern := edit("app/m.src", 2, "out load ( h )"), edit("app/m.src", 0, "extern h")
	first, second := edit("lib/g.src", 1, "return 66"), edit("app/m.src", 3, "out 9")
	for _, x := range []struct {
		l    []api.Edit
		want []int
	}{
		{[]api.Edit{first}, []int{0}},
		{[]api.Edit{first, other}, []int{0}},
		{[]api.Edit{other, same, first}, []int{2}},
		// either of both is enough: the last one is left out
		{[]api.Edit{first, second}, []int{0}},
		{[]api.Edit{second, first}, []int{0}},
		{[]api.Edit{other, second, same, first}, []int{1}},
		// one of these two alone cannot be built
		{[]api.Edit{call, extern}, []int{0, 1}},
		{[]api.Edit{same, extern, other, call}, []int{1, 3}},
		// without both of them the third one is left; it is tried before both are left out
		{[]api.Edit{second, call, extern}, []int{1, 2}},
		{[]api.Edit{call, extern, second}, []int{0, 1}},
		{[]api.Edit{edit("app/recipe", 9, "")}, []int{0}},
		{[]api.Edit{first, edit("app/recipe", 9, "install in as out/text")}, []int{0}},
	} {
		expectBlame(t, d, "app/out/text", x.l, x.want...)
	}
	for i, l := range [][]api.Edit{nil, {}, {other, same}, {call}, {first, edit("app/in", 0, "q"), edit("app/recipe", 0, "nothing")}} {
		if left, e := Blame(d, l, "app/out/text"); e != api.ErrState || left != nil {
			t.Error(i, left, e)
		}
	}
}

// P22.4: an edit that is needed in the first pass, because another one is still there, and left out in the second one.
func TestPasses(t *testing.T) {
	d := api.Distribution{pack("a", []string{"compile s to o", "install x as z"}, "x", "1", "s", "note 0\nnote 0")}
	x, function, body := edit("a/x", 0, "2"), edit("a/s", 0, "export fn f 1"), edit("a/s", 1, "")
	// a function without a body cannot be built; with one it does not matter
	expectTry(t, d, "a/z", true, false, x, function, body)
	expectTry(t, d, "a/z", false, false, x, function)
	expectTry(t, d, "a/z", true, false, x, body)
	expectTry(t, d, "a/z", true, true, body)
	expectBlame(t, d, "a/z", []api.Edit{x, function, body}, 0)
	expectBlame(t, d, "a/z", []api.Edit{function, x, body}, 1)
	expectBlame(t, d, "a/z", []api.Edit{function, body, x}, 2)
}

// P22.2, P22.4: a part of the edits may make a file too long that all of them do not; it cannot be built.
func TestTooLongParts(t *testing.T) {
	d := api.Distribution{pack("a", []string{"install x as z"}, "x", "1\n2")}
	l := []api.Edit{edit("a/x", 0, strings.Repeat("x", api.MaxData-1)), edit("a/x", 1, "")}
	expectTry(t, d, "a/z", true, false, l...)
	expectBlame(t, d, "a/z", l, 1)
	l[0], l[1] = l[1], l[0]
	expectBlame(t, d, "a/z", l, 0)
	l = []api.Edit{edit("a/x", 0, strings.Repeat("x", api.MaxData-1)), edit("a/x", 1, ""), edit("a/recipe", 0, "install x as z")}
	expectBlame(t, d, "a/z", l, 1)
	if x, e := Try(d, l[:1], "a/z"); e != api.ErrTooLarge || x != (api.Trial{}) {
		t.Error(x, e)
	}
}

// P22.2 to P22.4: the first error of each function: that of Edit, that of the build without the edits, then the output, or the build with them.
func TestErrors(t *testing.T) {
	good, none := []api.Edit{edit("app/x", 0, "q")}, []api.Edit{edit("app/none", 0, "q")}
	broken := []api.Edit{edit("app/recipe", 0, "nothing")}
	wrong := append(sample.Example(), pack("b", []string{"copy none to x"}))
	twice := append(sample.Example(), sample.Example()...)
	long := []api.Edit{edit("app/x", 0, strings.Repeat("x", api.MaxData))}
	for i, x := range []struct {
		d             api.Distribution
		l             []api.Edit
		output        string
		want, changed api.Errno
	}{
		{twice, none, "none", api.ErrTwice, api.ErrTwice},
		{wrong, none, "none", api.ErrNotFound, api.ErrNotFound},
		{wrong, append(good, good...), "none", api.ErrTwice, api.ErrTwice},
		{wrong, long, "none", api.ErrTooLarge, api.ErrTooLarge},
		{append(sample.Example(), pack("b", []string{"nothing"})), good, "none", api.ErrSyntax, api.ErrSyntax},
		// it does not help that it could be built with the edits
		{append(sample.Example(), pack("b", []string{"nothing"})), []api.Edit{edit("b/recipe", 0, "")}, "app/z", api.ErrSyntax, api.ErrSyntax},
		{sample.Example(), good, "none", api.ErrNotFound, api.OK},
		{sample.Example(), good, "app/y", api.ErrNotFound, api.OK},
		{sample.Example(), good, "app/x", api.ErrNotFound, api.OK},
		{sample.Example(), good, "", api.ErrNotFound, api.OK},
		// the edits would install it
		{sample.Example(), []api.Edit{edit("app/recipe", 1, "install y as w")}, "app/w", api.ErrNotFound, api.OK},
		{sample.Example(), broken, "none", api.ErrNotFound, api.ErrSyntax},
		{sample.Example(), []api.Edit{edit("app/p", 0, "keep 9")}, "none", api.ErrNotFound, api.ErrMismatch},
		{sample.Example(), []api.Edit{edit("app/p", 0, "keep 9"), edit("app/recipe", 1, "")}, "none", api.ErrNotFound, api.ErrMismatch},
		{nil, nil, "app/z", api.ErrNotFound, api.OK},
		{nil, good, "app/z", api.ErrNotFound, api.ErrNotFound},
	} {
		if trial, e := Try(x.d, x.l, x.output); e != x.want || trial != (api.Trial{}) {
			t.Error(i, trial, e)
		}
		if sound, e := Sound(x.d, x.l, x.output); e != x.want || sound {
			t.Error(i, sound, e)
		}
		if left, e := Blame(x.d, x.l, x.output); e != x.want || left != nil {
			t.Error(i, left, e)
		}
		if paths, e := Changed(x.d, x.l); e != x.changed || e != api.OK && len(paths) > 0 {
			t.Error(i, paths, e)
		}
	}
}
