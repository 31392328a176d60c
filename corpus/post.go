package corpus

import (
	"cmp"
	"slices"

	"licit/api"
	"licit/normalize"
	"licit/winnow"
)

// posts returns the posts of some valid texts for numbers that are in their bounds.
func posts(texts []api.Text, k, w int) []api.Post {
	var l []api.Post
	for i, t := range texts {
		// neither the text nor the numbers lead to an error
		prints, _ := winnow.Prints(t, k, w)
		for _, p := range prints {
			l = append(l, api.Post{Hash: p.Hash, Text: i, At: p.At})
		}
	}
	slices.SortFunc(l, func(x, y api.Post) int {
		return cmp.Or(cmp.Compare(x.Hash, y.Hash), cmp.Compare(x.Text, y.Text), cmp.Compare(x.At, y.At))
	})
	return l
}

// Find returns the posts with a hash; nothing, if the corpus is not valid.
func Find(c api.Corpus, hash int) []api.Post {
	if Check(c) != api.OK {
		return nil
	}
	var found []api.Post
	for _, p := range c.Posts {
		if p.Hash == hash {
			found = append(found, p)
		}
	}
	return found
}

// Near returns the numbers of the texts to which a text is near, the nearest ones first: ErrArg, if the corpus or the text is not valid.
func Near(c api.Corpus, t api.Text) ([]int, api.Errno) {
	if Check(c) != api.OK || !normalize.Valid(t) {
		return nil, api.ErrArg
	}
	shared := sharedHashes(c, t)
	var near []int
	for text := range c.Texts {
		if shared[text] > 0 {
			near = append(near, text)
		}
	}
	slices.SortFunc(near, func(x, y int) int {
		return cmp.Or(cmp.Compare(shared[y], shared[x]), cmp.Compare(x, y))
	})
	return near, api.OK
}

// sharedHashes returns how many different hashes of fingerprints each text of a valid corpus shares with a valid text.
func sharedHashes(c api.Corpus, t api.Text) map[int]int {
	prints, _ := winnow.Prints(t, c.K, c.W)
	has := map[int]bool{}
	for _, p := range prints {
		has[p.Hash] = true
	}
	shared := map[int]int{}
	for i, p := range c.Posts {
		// the posts of one text with one hash stand together, and count once
		again := i > 0 && c.Posts[i-1].Hash == p.Hash && c.Posts[i-1].Text == p.Text
		if has[p.Hash] && !again {
			shared[p.Text]++
		}
	}
	return shared
}
