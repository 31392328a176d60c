package automaton

import (
	"math/rand"
	"slices"
	"strconv"
	"sync"
	"testing"

	"licit/api"
)

// P27.1 to P27.4: all short texts with all short words are as the definitions say.
func TestByDefinition(t *testing.T) {
	eachText("ab", 5, func(text []api.Lexeme) {
		a := built(t, text)
		checkRuns(t, a, text)
		eachText("abx", 5, func(l []api.Lexeme) { checkWords(t, a, text, l) })
	})
	eachText("ab", 10, func(text []api.Lexeme) { checkRuns(t, built(t, text), text) })
	eachText("abcd", 5, func(text []api.Lexeme) { checkRuns(t, built(t, text), text) })
}

// P27.1 to P27.4: random texts, with words at random, and with their own runs.
func TestRandomByDefinition(t *testing.T) {
	r := rand.New(rand.NewSource(1))
	for range 300 {
		text := someWords(r, 40)
		a := built(t, text)
		checkRuns(t, a, text)
		for range 10 {
			checkWords(t, a, text, someWords(r, 20))
			from := r.Intn(len(text) + 1)
			run := text[from : from+r.Intn(len(text)-from+1)]
			checkWords(t, a, text, run)
			checkWords(t, a, text, slices.Concat(someWords(r, 3), run, words("strange"), run))
		}
	}
}

// P27.5: a run that is made longer, in front or behind, does not occur more often.
func TestLongerRuns(t *testing.T) {
	r := rand.New(rand.NewSource(2))
	for range 200 {
		text := someWords(r, 60)
		a := built(t, text)
		for _, run := range plainRuns(text) {
			n := a.Count(run)
			for _, s := range []string{"a", "ab", "abc", "x"} {
				if a.Count(slices.Concat(run, words(s))) > n || a.Count(slices.Concat(words(s), run)) > n {
					t.Fatal(spell(text), spell(run), s)
				}
			}
		}
	}
}

// P27.5: the counts of the different words of a text add up to their number, and those of its runs of each length to how many of them there are.
func TestSums(t *testing.T) {
	r := rand.New(rand.NewSource(3))
	for range 200 {
		text := someWords(r, 60)
		a := built(t, text)
		sums := make([]int, len(text)+1)
		for _, run := range plainRuns(text) {
			sums[len(run)] += a.Count(run)
		}
		for length, sum := range sums {
			if sum != len(text)+1-length {
				t.Fatal(spell(text), length, sum)
			}
		}
	}
}

// P27.5: how many states a text has, and that its reversal has as many runs.
func TestNumbers(t *testing.T) {
	r := rand.New(rand.NewSource(4))
	check := func(text []api.Lexeme) {
		n := len(text)
		a := built(t, text)
		if n >= 2 && (a.States() < n+1 || a.States() > 2*n-1) {
			t.Fatal(spell(text), a.States())
		}
		reversed := slices.Clone(text)
		slices.Reverse(reversed)
		if built(t, reversed).Runs() != a.Runs() {
			t.Fatal(spell(text), a.Runs())
		}
	}
	eachText("abc", 7, check)
	for range 100 {
		check(someWords(r, 500))
	}
}

// P27.5: the longest run has the length that two texts have in common, whichever of them the automaton is built of.
func TestCommon(t *testing.T) {
	r := rand.New(rand.NewSource(5))
	for range 1000 {
		x, y := someWords(r, 60), someWords(r, 60)
		a, b := built(t, x), built(t, y)
		inX, inY, n := a.Longest(y)
		_, _, m := b.Longest(x)
		if n != m || n > 0 && n != slices.Max(a.Ends(y)) || spell(x[inX:inX+n]) != spell(y[inY:inY+n]) || a.First(y[inY:inY+n]) != inX || b.First(x[inX:inX+n]) != inY {
			t.Fatal(spell(x), "/", spell(y), inX, inY, n, m)
		}
	}
}

// plainSuffixes returns the places of a text in the order of what begins there, and how many words each has in common with the one before.
func plainSuffixes(text []string) ([]int, []int) {
	var order, common []int
	for i := range text {
		order = append(order, i)
	}
	slices.SortFunc(order, func(i, j int) int { return slices.Compare(text[i:], text[j:]) })
	for k, i := range order {
		n := 0
		for k > 0 && i+n < len(text) && order[k-1]+n < len(text) && text[i+n] == text[order[k-1]+n] {
			n++
		}
		common = append(common, n)
	}
	return order, common
}

// P27.1, P27.2: long texts of few words, and of many, counted with their sorted ends.
func TestLongTexts(t *testing.T) {
	r := rand.New(rand.NewSource(6))
	for _, different := range []int{2, 3, 50, 3000} {
		var texts []string
		for range api.MaxWords {
			texts = append(texts, strconv.Itoa(r.Intn(different)))
		}
		text := words(texts...)
		a := built(t, text)
		order, common := plainSuffixes(texts)
		runs := 0
		for k, i := range order {
			runs += len(texts) - i - common[k]
		}
		if a.Runs() != runs || a.States() < len(texts)+1 || a.States() > 2*len(texts)-1 {
			t.Error(different, a.Runs(), runs, a.States())
		}
		for range 300 {
			from := r.Intn(len(text) - 20)
			run := text[from : from+r.Intn(20)]
			places := plainPlaces(text, run)
			if !a.Has(run) || a.Count(run) != len(places) || a.First(run) != places[0] {
				t.Fatal(different, spell(run), a.Count(run), a.First(run))
			}
		}
		inText, inWords, n := a.Longest(slices.Concat(words("x"), text, text))
		if inText != 0 || inWords != 1 || n != len(text) {
			t.Error(different, inText, inWords, n)
		}
	}
}

// P27.1 to P27.4: arguments are neither changed nor kept, results share no memory, and questions do not change the answers, even if they are asked at once.
func TestMemory(t *testing.T) {
	text := letters("abcabdab")
	a := built(t, text)
	if !slices.Equal(text, letters("abcabdab")) {
		t.Error(text)
	}
	clear(text)
	text = letters("abcabdab")
	l := letters("dabcab")
	first := a.Ends(l)
	clear(first)
	var group sync.WaitGroup
	for range 8 {
		group.Go(func() {
			for range 50 {
				if !slices.Equal(a.Ends(l), plainEnds(text, l)) || longest(a, l) != plainLongest(text, l) || a.Count(l[1:3]) != 3 || a.First(l[1:3]) != 0 || !a.Has(text) || a.Has(l) || a.States() != plainStates(text) || a.Runs() != len(plainRuns(text))-1 {
					t.Error(a.Ends(l), longest(a, l))
				}
			}
		})
	}
	group.Wait()
	if !slices.Equal(l, letters("dabcab")) {
		t.Error(l)
	}
}
