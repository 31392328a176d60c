package corpus

import (
	"cmp"
	"math"
	"slices"
	"strconv"
	"testing"

	"licit/api"
	"licit/rolling"
	"licit/sample"
	"licit/winnow"
)

// empty returns the corpus without texts for k and w.
func empty(t *testing.T, k, w int) api.Corpus {
	c, e := New(k, w)
	if e != api.OK {
		t.Fatal(k, w, e)
	}
	return c
}

// added returns a corpus to which some texts are added, one by one.
func added(t *testing.T, c api.Corpus, texts ...api.Text) api.Corpus {
	for _, x := range texts {
		var e api.Errno
		if c, e = Add(c, x); e != api.OK {
			t.Fatal(x, e)
		}
	}
	return c
}

// example returns the corpus of the example of the chapter.
func example(t *testing.T) api.Corpus { return added(t, empty(t, 2, 1), sample.Text("p", "0 a b a")) }

// plain returns the corpus of some texts, whose paths ascend, with the posts of the definition.
func plain(k, w int, texts ...api.Text) api.Corpus {
	c := api.Corpus{K: k, W: w, Texts: texts}
	for i, x := range texts {
		var grams []int
		for at := 0; at+k <= len(x.Words); at++ {
			grams = append(grams, rolling.Hash(x.Words[at:at+k]))
		}
		positions, _ := winnow.Select(grams, w)
		for _, at := range positions {
			c.Posts = append(c.Posts, api.Post{Hash: grams[at], Text: i, At: at})
		}
	}
	// they stand in the order of Text and At
	slices.SortStableFunc(c.Posts, func(x, y api.Post) int { return cmp.Compare(x.Hash, y.Hash) })
	return c
}

// equal says whether two corpora are the same.
func equal(a, b api.Corpus) bool {
	return a.K == b.K && a.W == b.W && slices.Equal(a.Posts, b.Posts) && slices.EqualFunc(a.Texts, b.Texts, func(x, y api.Text) bool {
		return x.Path == y.Path && slices.Equal(x.Words, y.Words)
	})
}

// isZero says whether a corpus is the zero value, as it has to be beside an error.
func isZero(c api.Corpus) bool { return equal(c, api.Corpus{}) }

// copied returns a copy of a corpus that shares no memory with it.
func copied(c api.Corpus) api.Corpus {
	c.Texts, c.Posts = slices.Clone(c.Texts), slices.Clone(c.Posts)
	for i, x := range c.Texts {
		c.Texts[i].Words = slices.Clone(x.Words)
	}
	return c
}

// numbered returns n short texts whose paths ascend.
func numbered(n int) []api.Text {
	var l []api.Text
	for i := range n {
		number := strconv.Itoa(100 + i)
		l = append(l, sample.Text("t"+number, "0 a b x"+number))
	}
	return l
}

// outside returns numbers that are neither the size of a run nor that of a window.
func outside() []int {
	return []int{0, -1, -1024, api.MaxList + 1, api.MaxWords, math.MinInt, math.MaxInt}
}

// invalid returns corpora with one fault or several, each one with the first of them.
func invalid(t *testing.T) []faulty {
	var l []faulty
	add := func(e api.Errno, change func(c *api.Corpus)) {
		c := added(t, empty(t, 1, 1), sample.Text("p", "0 a b a"), sample.Text("q", "0 b a"), sample.Text("r", "7 c"))
		change(&c)
		l = append(l, faulty{c, e})
	}
	for _, bad := range outside() {
		add(api.ErrRange, func(c *api.Corpus) { c.K = bad })
		add(api.ErrRange, func(c *api.Corpus) { c.W = bad })
		add(api.ErrRange, func(c *api.Corpus) { c.K, c.W = bad, bad })
		add(api.ErrRange, func(c *api.Corpus) { *c = api.Corpus{K: bad, W: 1} })
		// and more faults behind it
		add(api.ErrRange, func(c *api.Corpus) { c.W, c.Texts = bad, numbered(api.MaxFiles+1) })
		add(api.ErrRange, func(c *api.Corpus) { c.K, c.Texts[0].Path, c.Posts = bad, "A", nil })
	}
	addTexts(add)
	addPosts(add)
	return l
}

// faulty is a corpus with the error of its first fault.
type faulty struct {
	c api.Corpus
	e api.Errno
}

// addTexts adds corpora with faults in their texts.
func addTexts(add func(e api.Errno, change func(c *api.Corpus))) {
	add(api.ErrTooLarge, func(c *api.Corpus) { *c = plain(1, 1, numbered(api.MaxFiles+1)...) })
	add(api.ErrTooLarge, func(c *api.Corpus) { *c = plain(1, 1, numbered(3*api.MaxFiles)...) })
	add(api.ErrTooLarge, func(c *api.Corpus) { c.Texts = make([]api.Text, api.MaxFiles+1) })
	// many of these are equal to each other but for a byte
	for i, x := range sample.BadTexts() {
		if len(x.Words) > 100 || i%7 == 0 {
			add(api.ErrArg, func(c *api.Corpus) { c.Texts[0] = x })
			add(api.ErrArg, func(c *api.Corpus) { c.Texts[2].Words = nil; c.Texts[1] = x })
			add(api.ErrArg, func(c *api.Corpus) { *c = api.Corpus{K: 1, W: 1, Texts: []api.Text{x}} })
		}
	}
	add(api.ErrArg, func(c *api.Corpus) { c.Texts[1].Path = "" })
	add(api.ErrArg, func(c *api.Corpus) { c.Texts[2].Words[0].Line = -1 })
	for _, paths := range [][3]string{{"p", "p", "r"}, {"p", "q", "q"}, {"q", "p", "r"}, {"p", "r", "q"}, {"p", "q", "p"}, {"p/b", "p/a", "q"}, {"p/a", "p", "q"}, {"p_", "p.", "q"}} {
		add(api.ErrOrder, func(c *api.Corpus) {
			for i, path := range paths {
				c.Texts[i].Path = path
			}
		})
	}
	// of two faults the first one decides: the first text with one, and of it that it is not valid
	add(api.ErrArg, func(c *api.Corpus) { c.Texts[0].Path, c.Texts[2].Path = "Q", "a" })
	add(api.ErrOrder, func(c *api.Corpus) { c.Texts[1].Path, c.Texts[2].Path = "a", "A" })
	add(api.ErrArg, func(c *api.Corpus) { c.Texts[1].Path, c.Texts[2].Path = "A", "a" })
	add(api.ErrArg, func(c *api.Corpus) { c.Texts[1].Path, c.Texts[1].Words[0].Text = "a", "" })
	add(api.ErrArg, func(c *api.Corpus) { c.Texts[1].Path, c.Posts = "Q", nil })
	add(api.ErrOrder, func(c *api.Corpus) { c.Texts[1].Path, c.Posts = "a", nil })
}

// addPosts adds corpora whose posts are not those of their texts.
func addPosts(add func(e api.Errno, change func(c *api.Corpus))) {
	// the posts are those of a (99) at 0 and 2 of p, and at 1 of q, of b (100) at 1 of p, and at 0 of q, and of c (101)
	for i := range 6 {
		// one is lacking, or there twice
		add(api.ErrMismatch, func(c *api.Corpus) { c.Posts = slices.Delete(c.Posts, i, i+1) })
		add(api.ErrMismatch, func(c *api.Corpus) { c.Posts = slices.Insert(c.Posts, i, c.Posts[i]) })
		// or is another one
		add(api.ErrMismatch, func(c *api.Corpus) { c.Posts[i].Hash++ })
		add(api.ErrMismatch, func(c *api.Corpus) { c.Posts[i].Text++ })
		add(api.ErrMismatch, func(c *api.Corpus) { c.Posts[i].At-- })
		// or two are exchanged
		for j := range i {
			add(api.ErrMismatch, func(c *api.Corpus) { c.Posts[i], c.Posts[j] = c.Posts[j], c.Posts[i] })
		}
	}
	add(api.ErrMismatch, func(c *api.Corpus) { c.Posts = nil })
	add(api.ErrMismatch, func(c *api.Corpus) { c.Posts = append(c.Posts, api.Post{Hash: 102, Text: 2, At: 1}) })
	add(api.ErrMismatch, func(c *api.Corpus) { c.Posts = append(c.Posts, api.Post{}) })
	add(api.ErrMismatch, func(c *api.Corpus) { c.Posts = append(c.Posts, c.Posts...) })
	// in the order of the texts
	add(api.ErrMismatch, func(c *api.Corpus) {
		slices.SortFunc(c.Posts, func(x, y api.Post) int { return cmp.Or(cmp.Compare(x.Text, y.Text), cmp.Compare(x.At, y.At)) })
	})
	// for other numbers, and for other texts
	add(api.ErrMismatch, func(c *api.Corpus) { c.K = 2 })
	add(api.ErrMismatch, func(c *api.Corpus) { c.W = 2 })
	add(api.ErrMismatch, func(c *api.Corpus) { c.K, c.W = 1024, 1024 })
	add(api.ErrMismatch, func(c *api.Corpus) { c.Texts = c.Texts[:2] })
	add(api.ErrMismatch, func(c *api.Corpus) { c.Texts = nil })
	add(api.ErrMismatch, func(c *api.Corpus) { c.Texts[2].Words[0].Text = "d" })
	add(api.ErrMismatch, func(c *api.Corpus) { c.Texts = append(c.Texts, sample.Text("s", "0 a")) })
	add(api.ErrMismatch, func(c *api.Corpus) { *c = api.Corpus{K: 1, W: 1, Posts: []api.Post{{}}} })
}
