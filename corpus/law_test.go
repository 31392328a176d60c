package corpus

import (
	"cmp"
	"math/rand"
	"slices"
	"strconv"
	"testing"

	"licit/api"
	"licit/normalize"
	"licit/rolling"
	"licit/sample"
	"licit/winnow"
)

// someTexts returns texts at random, whose paths ascend.
func someTexts(r *rand.Rand, most int) []api.Text {
	var l []api.Text
	for i := range r.Intn(most + 1) {
		l = append(l, sample.Maker{Intn: r.Intn}.Text("t"+strconv.Itoa(i), 25))
	}
	return l
}

// shuffled returns the texts of a list in another order.
func shuffled(r *rand.Rand, l []api.Text) []api.Text {
	l = slices.Clone(l)
	r.Shuffle(len(l), func(i, j int) { l[i], l[j] = l[j], l[i] })
	return l
}

// P26.1, P26.2, P26.5: the order in which texts are added does not matter, and adding and dropping a text changes nothing: the corpus is that of the definition.
func TestOrderOfTexts(t *testing.T) {
	r := rand.New(rand.NewSource(1))
	for range 200 {
		k, w := 1+r.Intn(4), 1+r.Intn(4)
		texts := someTexts(r, 6)
		want := plain(k, w, texts...)
		id, e := ID(want)
		if Check(want) != api.OK || e != api.OK {
			t.Fatal(want, e)
		}
		c := empty(t, k, w)
		for i, x := range shuffled(r, texts) {
			c = added(t, c, x)
			// one more comes and goes
			more := added(t, c, sample.Text("t"+strconv.Itoa(r.Intn(9))+"-"+strconv.Itoa(i), "0 a b c a b c"))
			gone := slices.IndexFunc(more.Texts, func(y api.Text) bool {
				return !slices.ContainsFunc(c.Texts, func(z api.Text) bool { return y.Path == z.Path })
			})
			if less, e := Drop(more, more.Texts[gone].Path); e != api.OK || !equal(less, c) {
				t.Fatal(less, c, e)
			}
		}
		if other, e := ID(c); !equal(c, want) || e != api.OK || other != id {
			t.Fatal(c, want, e)
		}
		for i, x := range shuffled(r, texts) {
			if c, e = Drop(c, x.Path); e != api.OK || Check(c) != api.OK || len(c.Texts) != len(texts)-1-i {
				t.Fatal(c, e)
			}
		}
		if !equal(c, empty(t, k, w)) {
			t.Fatal(c)
		}
	}
}

// P26.5: posts are exactly the fingerprints of the texts; Find returns those with a hash, in order.
func TestPostsAreFingerprints(t *testing.T) {
	r := rand.New(rand.NewSource(2))
	for range 300 {
		k, w := 1+r.Intn(4), 1+r.Intn(4)
		c := added(t, empty(t, k, w), shuffled(r, someTexts(r, 6))...)
		found := map[api.Post]bool{}
		for _, p := range c.Posts {
			if found[p] || rolling.Hash(c.Texts[p.Text].Words[p.At:p.At+k]) != p.Hash {
				t.Fatal(c, p)
			}
			found[p] = true
		}
		for i, x := range c.Texts {
			prints, _ := winnow.Prints(x, k, w)
			for _, p := range prints {
				post := api.Post{Hash: p.Hash, Text: i, At: p.At}
				if !found[post] || !slices.Contains(Find(c, p.Hash), post) {
					t.Fatal(c, post)
				}
				delete(found, post)
			}
		}
		if len(found) != 0 || !slices.IsSortedFunc(c.Posts, inOrder) {
			t.Fatal(c, found)
		}
		var all []api.Post
		for _, hash := range hashes(c.Posts) {
			all = append(all, Find(c, hash)...)
		}
		if !slices.Equal(all, c.Posts) {
			t.Fatal(c, all)
		}
	}
}

// inOrder compares posts by Hash, by Text and by At.
func inOrder(x, y api.Post) int {
	return slices.Compare([]int{x.Hash, x.Text, x.At}, []int{y.Hash, y.Text, y.At})
}

// hashes returns the hashes of some posts, ascending and each once.
func hashes(l []api.Post) []int {
	var hashes []int
	for _, p := range l {
		hashes = append(hashes, p.Hash)
	}
	slices.Sort(hashes)
	return slices.Compact(hashes)
}

// plainNear returns the texts to which a text is near by the definition.
func plainNear(c api.Corpus, x api.Text) []int {
	// the posts of a corpus with this text alone are its fingerprints
	own := hashes(plain(c.K, c.W, x).Posts)
	count := func(text int) int {
		n := 0
		for _, hash := range own {
			if slices.ContainsFunc(Find(c, hash), func(p api.Post) bool { return p.Text == text }) {
				n++
			}
		}
		return n
	}
	var near []int
	for i := range c.Texts {
		if count(i) > 0 {
			near = append(near, i)
		}
	}
	slices.SortStableFunc(near, func(i, j int) int { return -cmp.Compare(count(i), count(j)) })
	return near
}

// P26.3, P26.5: near texts of random ones are those of the definition, and a text with a run of at least K + W - 1 words in common is one of them.
func TestNearByDefinition(t *testing.T) {
	r := rand.New(rand.NewSource(3))
	common := 0
	for range 200 {
		k, w := 1+r.Intn(4), 1+r.Intn(4)
		c := plain(k, w, someTexts(r, 6)...)
		x := sample.Maker{Intn: r.Intn}.Text("t"+strconv.Itoa(r.Intn(7)), 25)
		near, e := Near(c, x)
		if e != api.OK || !slices.Equal(near, plainNear(c, x)) {
			t.Fatal(c, x, near, e)
		}
		for i, y := range c.Texts {
			for from := range x.Words {
				for at := range y.Words {
					if normalize.Common(x, from, y, at) < k+w-1 {
						continue
					}
					common++
					if !slices.Contains(near, i) {
						t.Fatal(c, x, i, from, at)
					}
				}
			}
		}
	}
	if common < 1000 {
		t.Error(common)
	}
}

// P26.4: different corpora have different digests.
func TestDigests(t *testing.T) {
	r := rand.New(rand.NewSource(4))
	seen := map[string]api.Corpus{}
	for range 1000 {
		c := plain(1+r.Intn(2), 1+r.Intn(2), someTexts(r, 2)...)
		id, e := ID(c)
		if before, found := seen[id]; e != api.OK || len(id) != api.DigestSize || found && !equal(before, c) {
			t.Fatal(c, before, e)
		}
		seen[id] = c
	}
}

// P26.2: arguments are not changed, and results share no memory with them, nor with other results.
func TestMemory(t *testing.T) {
	// there is room behind each list
	c := copied(added(t, empty(t, 1, 1), sample.Text("p", "0 a b a"), sample.Text("r", "0 b a")))
	c.Texts, c.Posts = append(c.Texts, api.Text{Path: "z"})[:2], append(c.Posts, api.Post{})[:5]
	x := sample.Text("q", "0 a c")
	before, beforeX := copied(c), slices.Clone(x.Words)
	longer, e := Add(c, x)
	again, f := Add(c, x)
	less, g := Drop(c, "p")
	last, h := Drop(c, "r")
	Near(c, x)
	ID(c)
	found := Find(c, 99)
	if e != api.OK || f != api.OK || g != api.OK || h != api.OK || !equal(longer, again) || !equal(c, before) || c.Texts[:3][2].Path != "z" || c.Posts[:6][5] != (api.Post{}) {
		t.Fatal(c, longer, again, e, f, g, h)
	}
	for _, y := range []api.Corpus{longer, less, last} {
		for i := range y.Texts {
			clear(y.Texts[i].Words)
		}
		clear(y.Texts)
		clear(y.Posts)
	}
	clear(found)
	if !equal(c, before) || !slices.Equal(x.Words, beforeX) || !equal(again, plain(1, 1, before.Texts[0], x, before.Texts[1])) {
		t.Error(c, x, again)
	}
}
