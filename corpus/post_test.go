package corpus

import (
	"math"
	"slices"
	"strings"
	"testing"

	"licit/api"
	"licit/digest"
	"licit/sample"
)

// P26.3: the posts with a hash that one text has, that several have, and that none has.
func TestFind(t *testing.T) {
	c := added(t, empty(t, 1, 1), sample.Text("p", "0 a b a"), sample.Text("q", "0 c"), sample.Text("r", "0 b", "1 a", "1 d", "2 a"))
	for _, x := range []struct {
		hash int
		want []api.Post
	}{
		{99, []api.Post{{Hash: 99, Text: 0, At: 0}, {Hash: 99, Text: 0, At: 2}, {Hash: 99, Text: 2, At: 1}, {Hash: 99, Text: 2, At: 3}}},
		{100, []api.Post{{Hash: 100, Text: 0, At: 1}, {Hash: 100, Text: 2, At: 0}}},
		{101, []api.Post{{Hash: 101, Text: 1, At: 0}}},
		{102, []api.Post{{Hash: 102, Text: 2, At: 2}}},
		{98, nil}, {103, nil}, {0, nil}, {-1, nil}, {math.MinInt, nil}, {math.MaxInt, nil},
	} {
		if l := Find(c, x.hash); !slices.Equal(l, x.want) {
			t.Error(x.hash, l)
		}
	}
	if l := Find(empty(t, 1, 1), 0); l != nil {
		t.Error(l)
	}
	c = example(t)
	for _, p := range c.Posts {
		if l := Find(c, p.Hash); !slices.Equal(l, []api.Post{p}) {
			t.Error(p, l)
		}
	}
}

// P26.3, P26.4: a corpus that is not valid has no posts, and neither near texts nor a digest.
func TestInvalid(t *testing.T) {
	for i, x := range invalid(t) {
		for _, hash := range []int{99, 100, 101, 0} {
			if l := Find(x.c, hash); l != nil {
				t.Error(i, hash, l)
			}
		}
		if l, e := Near(x.c, sample.Text("p", "0 a b")); e != api.ErrArg || l != nil {
			t.Error(i, l, e)
		}
		if s, e := ID(x.c); e != api.ErrArg || s != "" {
			t.Error(i, s, e)
		}
	}
	for i, x := range sample.BadTexts() {
		if l, e := Near(example(t), x); e != api.ErrArg || l != nil {
			t.Error(i, l, e)
		}
	}
}

// P26.3: the texts to which others are near.
func TestNear(t *testing.T) {
	texts := []api.Text{
		sample.Text("p", "0 a b c"),
		// a hash that a text has several times counts once
		sample.Text("q", "0 a a a a a"),
		sample.Text("r", "0 c d"),
		sample.Text("s"),
		sample.Text("t", "0 d c b a"),
		sample.Text("u", "0 b a b a b"),
	}
	c := added(t, empty(t, 1, 1), texts...)
	for i, x := range []struct {
		text api.Text
		want []int
	}{
		{sample.Text("x"), nil}, {sample.Text("x", "0 e f"), nil}, {sample.Text("x", "0 A"), nil},
		{sample.Text("x", "0 a"), []int{0, 1, 4, 5}}, {sample.Text("x", "0 a a a a"), []int{0, 1, 4, 5}}, {sample.Text("x", "0 e d"), []int{2, 4}},
		{sample.Text("x", "0 a b"), []int{0, 4, 5, 1}}, {sample.Text("x", "7 b a", "9 b"), []int{0, 4, 5, 1}}, {sample.Text("x", "0 c c d"), []int{2, 4, 0}}, {sample.Text("x", "0 a d"), []int{4, 0, 1, 2, 5}},
		{sample.Text("x", "0 a b c d"), []int{4, 0, 2, 5, 1}}, {sample.Text("x", "0 b c"), []int{0, 4, 2, 5}},
		// one of the texts themselves, whatever the path is
		{texts[0], []int{0, 4, 5, 1, 2}}, {texts[3], nil}, {sample.Text("p", "0 d"), []int{2, 4}}, {sample.Text("q/x", "0 d"), []int{2, 4}},
	} {
		if l, e := Near(c, x.text); e != api.OK || !slices.Equal(l, x.want) {
			t.Error(i, l, e)
		}
	}
	if l, e := Near(empty(t, 1, 1), texts[0]); e != api.OK || l != nil {
		t.Error(l, e)
	}
}

// P26.3: runs of several words, of which windows select some, and as many texts as possible.
func TestNearRuns(t *testing.T) {
	c := added(t, empty(t, 2, 2), sample.Text("p", "0 a b c d"), sample.Text("q", "0 d c b a"), sample.Text("r", "0 x a b c"))
	for i, x := range []struct {
		text api.Text
		want []int
	}{
		// two hashes have a window, one has none
		{sample.Text("x", "0 a b c"), []int{0, 2}}, {sample.Text("x", "0 a b"), nil}, {sample.Text("x", "0 c b a"), []int{1}}, {sample.Text("x", "0 a c b d"), nil},
	} {
		if l, e := Near(c, x.text); e != api.OK || !slices.Equal(l, x.want) {
			t.Error(i, l, e)
		}
	}
	full := added(t, empty(t, 1, 1), numbered(api.MaxFiles)...)
	l, e := Near(full, sample.Text("x", "0 a x163", "1 x110"))
	want := []int{10, 63}
	for i := range api.MaxFiles {
		if i != 10 && i != 63 {
			want = append(want, i)
		}
	}
	if e != api.OK || !slices.Equal(l, want) {
		t.Error(l, e)
	}
}

// P26.4: digests of strings that are written out, and of which some were computed elsewhere.
func TestID(t *testing.T) {
	words := api.Text{Path: "b-c", Words: []api.Lexeme{{Text: "\xff", Line: 1023}}}
	for i, x := range []struct {
		c         api.Corpus
		text, hex string
	}{
		{empty(t, 2, 1), "2 1\n", "e122bcfc3d3b728f9aaff0965c98957c993384cdbc6317311cc75bcb3f025a15"},
		{empty(t, 1, 1), "1 1\n", "2bde88e787175ffb3881e7074824a565f5fbadd1d035bddfcd3e6664971ea0e1"},
		{empty(t, 1024, 1024), "1024 1024\n", "feecdeb3579051f48e26fefc05e30835827f23bf19cb897c1407d3aa92201d49"},
		{empty(t, 12, 3), "12 3\n", "b57e5b9ceb3e839377775df4f3a103fae45bd58de1ac38dd6d5c3d98c19482b8"},
		{empty(t, 1, 23), "1 23\n", "ccac930d58c0e643a8b39accdcd66f6bc473ab3294d1222586dea3ddca258ad6"},
		{example(t), "2 1\np\n0: a b a\n", "2fcd45c91f1a9eedcffb00466dde18be8c6d4e1942576ffa1daaf096c23b24b7"},
		// a text without words has its path alone
		{added(t, empty(t, 2, 3), words, sample.Text("a", "0 x y", "7 z"), sample.Text("a/b")), "2 3\na\n0: x y\n7: z\na/b\nb-c\n1023: \xff\n", "ef31fef9c2455706aba7f270df2cbf476b169b11d7b04f5c64776dc4083dff28"},
	} {
		s, e := ID(x.c)
		text, f := digest.Hex(s)
		if e != api.OK || f != api.OK || s != digest.Sum(x.text) || text != x.hex {
			t.Error(i, text, e, f)
		}
	}
	// more bytes than a file can have
	long := api.Text{Path: "a", Words: []api.Lexeme{{Text: strings.Repeat("w", 3*api.MaxData), Line: 5}}}
	if s, e := ID(added(t, empty(t, 1, 1), long)); e != api.OK || s != digest.Sum("1 1\na\n5: "+long.Words[0].Text+"\n") {
		t.Error(len(s), e)
	}
}
