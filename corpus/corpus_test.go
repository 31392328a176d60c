package corpus

import (
	"slices"
	"testing"

	"licit/api"
	"licit/sample"
)

// P26.1: the corpus without texts, with the least and the greatest numbers.
func TestNew(t *testing.T) {
	for _, x := range [][2]int{{1, 1}, {1, 1024}, {1024, 1}, {1024, 1024}, {2, 3}} {
		c, e := New(x[0], x[1])
		if e != api.OK || c.K != x[0] || c.W != x[1] || len(c.Texts) != 0 || len(c.Posts) != 0 || Check(c) != api.OK {
			t.Error(x, c, e)
		}
	}
	for _, bad := range outside() {
		for _, x := range [][2]int{{bad, 1}, {1, bad}, {bad, 1024}, {1024, bad}, {bad, bad}, {bad, -bad}} {
			if c, e := New(x[0], x[1]); e != api.ErrRange || !isZero(c) {
				t.Error(x, c, e)
			}
		}
	}
}

// P26.1, P26.2: the example of the chapter.
func TestExample(t *testing.T) {
	c := example(t)
	if want := (api.Corpus{K: 2, W: 1, Texts: []api.Text{sample.Text("p", "0 a b a")}, Posts: []api.Post{{Hash: 99000397, Text: 0, At: 0}, {Hash: 100000399, Text: 0, At: 1}}}); !equal(c, want) || Check(want) != api.OK {
		t.Error(c)
	}
	if l, e := Near(c, sample.Text("q", "0 b a")); e != api.OK || !slices.Equal(l, []int{0}) {
		t.Error(l, e)
	}
}

// P26.1: corpora that are valid: without texts, with texts without words or posts, and with as many as possible.
func TestCheck(t *testing.T) {
	full := numbered(api.MaxFiles)
	long := api.Text{Path: sample.LongPath(), Words: sample.Many(api.MaxWords).Words}
	for i, c := range []api.Corpus{
		{K: 1, W: 1}, {K: 1024, W: 1024, Texts: []api.Text{}, Posts: []api.Post{}},
		{K: 1, W: 1, Texts: []api.Text{{Path: "a"}, {Path: "b"}}},
		{K: 4, W: 1, Texts: []api.Text{sample.Text("a", "0 x y z")}},
		{K: 1, W: 4, Texts: []api.Text{sample.Text("a", "0 x y z")}},
		plain(1, 1, sample.Text("p", "0 a b a"), sample.Text("q", "0 b a")),
		// paths in the order of their bytes; one may be below another one
		plain(1, 1, sample.Text("p", "0 a"), sample.Text("p-", "0 a"), sample.Text("p.", "0 a"), sample.Text("p/a", "0 a"), sample.Text("p/a/b", "0 a"), sample.Text("p0", "0 a"), sample.Text("p_", "0 a"), sample.Text("pp", "0 a")),
		// the same words twice
		plain(2, 2, sample.Text("p", "0 a b a b a"), sample.Text("q", "0 a b a b a")),
		plain(1, 1, full...), plain(1, 1, full[1:]...), plain(3, 1, full...),
		plain(1, 1, long), plain(1, 1024, long), plain(1024, 1, long), plain(1024, 1024, long),
	} {
		if e := Check(c); e != api.OK {
			t.Error(i, e)
		}
	}
}

// P26.1: the first fault of corpora that are not valid.
func TestFaults(t *testing.T) {
	for i, x := range invalid(t) {
		if e := Check(x.c); e != x.e {
			t.Error(i, e, x.e)
		}
	}
}

// P26.2: texts that are added in front, behind and between, and dropped again.
func TestAddAndDrop(t *testing.T) {
	b, d, f := sample.Text("b", "0 x y", "4 x"), sample.Text("d", "0 y x"), sample.Text("f")
	c := added(t, empty(t, 1, 1), d, f, b)
	if want := plain(1, 1, b, d, f); !equal(c, want) {
		t.Error(c)
	}
	for _, x := range []struct {
		path string
		at   int
	}{{"a", 0}, {"b-", 1}, {"b/c", 1}, {"c", 1}, {"d0", 2}, {"e", 2}, {"f_", 3}, {"g", 3}} {
		text := sample.Text(x.path, "1 x z")
		longer, e := Add(c, text)
		if e != api.OK || !equal(longer, plain(1, 1, slices.Insert([]api.Text{b, d, f}, x.at, text)...)) || Check(longer) != api.OK {
			t.Error(x, longer, e)
		}
		if again, e := Drop(longer, x.path); e != api.OK || !equal(again, c) {
			t.Error(x, again, e)
		}
	}
	for i, path := range []string{"b", "d", "f"} {
		if less, e := Drop(c, path); e != api.OK || !equal(less, plain(1, 1, slices.Delete([]api.Text{b, d, f}, i, i+1)...)) {
			t.Error(path, less, e)
		}
	}
	c, e := Drop(example(t), "p")
	if e != api.OK || !equal(c, empty(t, 2, 1)) {
		t.Error(c, e)
	}
}

// P26.2: as many texts as possible, and one more.
func TestAddLimits(t *testing.T) {
	full := numbered(api.MaxFiles)
	c := added(t, empty(t, 2, 1), full...)
	if !equal(c, plain(2, 1, full...)) || len(c.Texts) != 64 {
		t.Error(c)
	}
	for _, x := range []struct {
		path string
		e    api.Errno
	}{{"a", api.ErrTooLarge}, {"z", api.ErrTooLarge}, {"t100_", api.ErrTooLarge}, {full[0].Path, api.ErrTwice}, {full[63].Path, api.ErrTwice}} {
		if longer, e := Add(c, sample.Text(x.path, "0 a b")); e != x.e || !isZero(longer) {
			t.Error(x, longer, e)
		}
	}
	less, e := Drop(c, full[30].Path)
	if e != api.OK {
		t.Fatal(e)
	}
	if again := added(t, less, full[30]); !equal(again, c) {
		t.Error(again)
	}
	// a text with as many words as possible, and one word more
	if c := added(t, empty(t, 3, 7), sample.Many(api.MaxWords)); !equal(c, plain(3, 7, sample.Many(api.MaxWords))) {
		t.Error(len(c.Posts))
	}
	if c, e := Add(empty(t, 3, 7), sample.Many(api.MaxWords+1)); e != api.ErrArg || !isZero(c) {
		t.Error(len(c.Posts), e)
	}
}

// P26.2: what Add and Drop refuse, and which error comes first.
func TestAddAndDropErrors(t *testing.T) {
	c := example(t)
	for i, x := range sample.BadTexts() {
		if longer, e := Add(c, x); e != api.ErrArg || !isZero(longer) {
			t.Error(i, longer, e)
		}
	}
	for _, x := range []api.Text{{Path: "p"}, sample.Text("p", "0 a b a"), sample.Text("p", "9 z")} {
		if longer, e := Add(c, x); e != api.ErrTwice || !isZero(longer) {
			t.Error(x, longer, e)
		}
	}
	for i, x := range invalid(t) {
		for _, path := range []string{"p", "s", "A"} {
			if longer, e := Add(x.c, sample.Text(path, "0 a")); e != api.ErrArg || !isZero(longer) {
				t.Error(i, path, longer, e)
			}
			if less, e := Drop(x.c, path); e != api.ErrArg || !isZero(less) {
				t.Error(i, path, less, e)
			}
		}
	}
	for _, path := range append(sample.BadPaths(), "a", "o", "q", "p/a", "p-", "pp") {
		if less, e := Drop(c, path); e != api.ErrNotFound || !isZero(less) {
			t.Error(path, less, e)
		}
		if less, e := Drop(empty(t, 2, 1), path); e != api.ErrNotFound || !isZero(less) {
			t.Error(path, less, e)
		}
	}
	// a text that is not valid and whose path is there, for a corpus without room
	full := added(t, empty(t, 1, 1), numbered(api.MaxFiles)...)
	if longer, e := Add(full, sample.Text("t100", "-1 a")); e != api.ErrArg || !isZero(longer) {
		t.Error(longer, e)
	}
}
