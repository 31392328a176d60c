package sample

import (
	"math/rand"
	"slices"
	"testing"

	"licit/api"
	"licit/normalize"
	"licit/tree"
)

// Texts that are written out, and texts of as many words as possible.
func TestTexts(t *testing.T) {
	if x := Text("a", "0 x y", "7 z", "8"); x.Path != "a" || !slices.Equal(x.Words, []api.Lexeme{{Text: "x", Line: 0}, {Text: "y", Line: 0}, {Text: "z", Line: 7}}) {
		t.Error(x)
	}
	if x := Text("a", "x y"); normalize.Valid(x) {
		t.Error(x)
	}
	for _, n := range []int{0, 1, 11, api.MaxWords} {
		if x := Many(n); len(x.Words) != n || !normalize.Valid(x) {
			t.Error(n, len(x.Words))
		}
	}
}

// The texts that a maker makes are valid, have from 0 words up to so many, and several lines.
func TestTextsOfChoices(t *testing.T) {
	r := rand.New(rand.NewSource(3))
	sizes, lines := map[int]bool{}, map[int]bool{}
	for range 300 {
		x := Maker{r.Intn}.Text("a", 9)
		if !normalize.Valid(x) {
			t.Fatal(x)
		}
		sizes[len(x.Words)] = true
		for _, word := range x.Words {
			lines[word.Line] = true
		}
	}
	if len(sizes) != 10 || !sizes[0] || !sizes[9] || len(lines) < 4 {
		t.Error(sizes, lines)
	}
}

// Strings that are no paths, and texts that are not valid.
func TestBadOnes(t *testing.T) {
	if e := tree.Path(LongPath()); e != api.OK || len(LongPath()) != api.MaxPath {
		t.Error(e)
	}
	for _, path := range BadPaths() {
		if tree.Path(path) != api.ErrName {
			t.Error(path)
		}
	}
	for i, x := range BadTexts() {
		if normalize.Valid(x) {
			t.Error(i, x.Path)
		}
	}
}
