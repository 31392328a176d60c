package automaton

import (
	"math/rand"
	"slices"
	"strconv"
	"strings"
	"testing"

	"licit/api"
)

// words returns words with some texts, whose lines differ.
func words(texts ...string) []api.Lexeme {
	var l []api.Lexeme
	for i, s := range texts {
		l = append(l, api.Lexeme{Text: s, Line: i / 2})
	}
	return l
}

// letters returns a word for each byte of a string.
func letters(s string) []api.Lexeme {
	if s == "" {
		return nil
	}
	return words(strings.Split(s, "")...)
}

// numbered returns n words that are all different, from a number on.
func numbered(from, n int) []api.Lexeme {
	var l []api.Lexeme
	for i := range n {
		l = append(l, api.Lexeme{Text: "w" + strconv.Itoa(from+i), Line: 3})
	}
	return l
}

// repeated returns n equal words.
func repeated(word string, n int) []api.Lexeme {
	return slices.Repeat([]api.Lexeme{{Text: word, Line: 7}}, n)
}

// built returns the automaton of a text.
func built(t *testing.T, l []api.Lexeme) *Automaton {
	t.Helper()
	a, e := Build(l)
	if a == nil || e != api.OK {
		t.Fatal(len(l), a, e)
	}
	return a
}

// eachText calls a function with all texts of up to so many words, which are some letters.
func eachText(alphabet string, most int, f func(l []api.Lexeme)) {
	var grow func(s string)
	grow = func(s string) {
		f(letters(s))
		if len(s) < most {
			for _, c := range alphabet {
				grow(s + string(c))
			}
		}
	}
	grow("")
}

// someWords returns up to so many words at random, which are few different ones.
func someWords(r *rand.Rand, most int) []api.Lexeme {
	different := 1 + r.Intn(4)
	var l []api.Lexeme
	for range r.Intn(most + 1) {
		l = append(l, api.Lexeme{Text: "abcd"[:1+r.Intn(different)], Line: r.Intn(9)})
	}
	return l
}

// spell returns a string that is the same for words exactly if their texts are.
func spell(l []api.Lexeme) string {
	var parts []string
	for _, word := range l {
		parts = append(parts, strconv.Quote(word.Text))
	}
	return strings.Join(parts, " ")
}

// plainPlaces returns the places at which a run occurs in a text, by the definition.
func plainPlaces(text, run []api.Lexeme) []int {
	var places []int
	for at := 0; at+len(run) <= len(text); at++ {
		same := true
		for i, word := range run {
			same = same && text[at+i].Text == word.Text
		}
		if same {
			places = append(places, at)
		}
	}
	return places
}

// plainRuns returns the different runs of a text, the empty one included, by how they are spelled.
func plainRuns(text []api.Lexeme) map[string][]api.Lexeme {
	runs := map[string][]api.Lexeme{"": nil}
	for from := range text {
		for to := from + 1; to <= len(text); to++ {
			runs[spell(text[from:to])] = text[from:to]
		}
	}
	return runs
}

// plainStates returns how many different sets of places the runs of a text end at.
func plainStates(text []api.Lexeme) int {
	classes := map[string]bool{}
	for _, run := range plainRuns(text) {
		var ends []string
		for _, at := range plainPlaces(text, run) {
			ends = append(ends, strconv.Itoa(at+len(run)))
		}
		classes[strings.Join(ends, " ")] = true
	}
	return len(classes)
}

// plainEnds returns for each index of words the length of the longest run that ends there and occurs in a text.
func plainEnds(text, l []api.Lexeme) []int {
	ends := []int{}
	for i := range l {
		from := 0
		for plainPlaces(text, l[from:i+1]) == nil {
			from++
		}
		ends = append(ends, i+1-from)
	}
	return ends
}

// plainLongest returns the longest run of words that occurs in a text, by the definition: the longest ones first, and of these the first one in the words.
func plainLongest(text, l []api.Lexeme) [3]int {
	for length := len(l); length > 0; length-- {
		for from := 0; from+length <= len(l); from++ {
			if places := plainPlaces(text, l[from:from+length]); places != nil {
				return [3]int{places[0], from, length}
			}
		}
	}
	return [3]int{}
}

// longest returns what Longest does as one value.
func longest(a *Automaton, l []api.Lexeme) [3]int {
	inText, inWords, length := a.Longest(l)
	return [3]int{inText, inWords, length}
}

// checkWords compares what an automaton says about words with the definitions.
func checkWords(t *testing.T, a *Automaton, text, l []api.Lexeme) {
	t.Helper()
	places := plainPlaces(text, l)
	first := -1
	if places != nil {
		first = places[0]
	}
	if a.Has(l) != (places != nil) || a.Count(l) != len(places) || a.First(l) != first {
		t.Fatal(spell(text), "/", spell(l), a.Has(l), a.Count(l), a.First(l), places)
	}
	if got := a.Ends(l); !slices.Equal(got, plainEnds(text, l)) {
		t.Fatal(spell(text), "/", spell(l), got)
	}
	if got := longest(a, l); got != plainLongest(text, l) {
		t.Fatal(spell(text), "/", spell(l), got)
	}
}

// checkRuns compares what an automaton says about its text with the definitions.
func checkRuns(t *testing.T, a *Automaton, text []api.Lexeme) {
	t.Helper()
	if a.States() != plainStates(text) || a.Runs() != len(plainRuns(text))-1 {
		t.Fatal(spell(text), a.States(), a.Runs())
	}
}
