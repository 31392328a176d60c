package automaton

import (
	"slices"
	"testing"

	"licit/api"
)

// P27.1, P27.2, P27.4: the example of the chapter.
func TestExample(t *testing.T) {
	a := built(t, words("a", "b", "a", "b"))
	if a.Runs() != 7 || a.States() != 5 {
		t.Error(a.Runs(), a.States())
	}
	if got := longest(a, words("b", "a", "b", "b")); got != [3]int{1, 0, 3} {
		t.Error(got)
	}
	if got := a.Ends(words("b", "a", "b", "b")); !slices.Equal(got, []int{1, 2, 3, 1}) {
		t.Error(got)
	}
	for s, x := range map[string][2]int{"": {5, 0}, "a": {2, 0}, "b": {2, 1}, "ab": {2, 0}, "ba": {1, 1}, "aba": {1, 0}, "bab": {1, 1}, "abab": {1, 0}} {
		if l := letters(s); !a.Has(l) || a.Count(l) != x[0] || a.First(l) != x[1] {
			t.Error(s, a.Has(l), a.Count(l), a.First(l))
		}
	}
}

// P27.1: whether, how often and where words occur.
func TestOccurrences(t *testing.T) {
	for _, x := range []struct {
		text, l      []api.Lexeme
		count, first int
	}{
		// the empty run
		{nil, nil, 1, 0}, {[]api.Lexeme{}, []api.Lexeme{}, 1, 0}, {letters("a"), nil, 2, 0}, {letters("abc"), nil, 4, 0}, {letters("aaa"), []api.Lexeme{}, 4, 0},
		// no words, and one
		{nil, letters("a"), 0, -1}, {nil, letters("ab"), 0, -1}, {nil, words(""), 0, -1}, {letters("a"), letters("a"), 1, 0}, {letters("a"), letters("b"), 0, -1},
		// runs that overlap themselves
		{letters("aaaa"), letters("a"), 4, 0}, {letters("aaaa"), letters("aa"), 3, 0}, {letters("aaaa"), letters("aaa"), 2, 0}, {letters("aaaa"), letters("aaaa"), 1, 0},
		{letters("xababab"), letters("abab"), 2, 1}, {letters("xababab"), letters("aba"), 2, 1}, {letters("abaababaab"), letters("abaab"), 2, 0}, {letters("babaaba"), letters("aba"), 2, 1},
		// all words are different
		{letters("abcdef"), letters("cd"), 1, 2}, {letters("abcdef"), letters("f"), 1, 5}, {letters("abcdef"), letters("abcdef"), 1, 0},
		// runs and words that the text does not have
		{letters("abcabd"), letters("abd"), 1, 3}, {letters("abcabd"), letters("ac"), 0, -1}, {letters("abcabd"), letters("abcabc"), 0, -1}, {letters("abcabd"), letters("da"), 0, -1}, {letters("abcabd"), letters("bda"), 0, -1},
		{letters("abcabd"), letters("e"), 0, -1}, {letters("abcabd"), letters("ea"), 0, -1}, {letters("abcabd"), letters("aeb"), 0, -1}, {letters("abcabd"), letters("abe"), 0, -1}, {letters("abcabd"), words("ab"), 0, -1}, {words("ab", "c"), letters("abc"), 0, -1},
		// longer than the text
		{letters("aaaa"), letters("aaaaa"), 0, -1}, {letters("ab"), letters("aba"), 0, -1}, {letters("ab"), letters("ababab"), 0, -1}, {letters("a"), letters("aa"), 0, -1}, {nil, repeated("a", 2*api.MaxWords), 0, -1}, {letters("a"), repeated("a", 2*api.MaxWords), 0, -1},
		// words without bytes, and with any
		{words("", "a", ""), words(""), 2, 0}, {words("", "a", ""), words("", ""), 0, -1}, {words("", "", ""), words("", ""), 2, 0}, {words("", "a", ""), words("a", ""), 1, 1}, {letters("a"), words(""), 0, -1},
		{words("a b", "\x00", "ä\xff"), words("\x00", "ä\xff"), 1, 1}, {words("a b", "\x00"), words("a", "b"), 0, -1},
	} {
		a := built(t, x.text)
		if a.Has(x.l) != (x.count > 0) || a.Count(x.l) != x.count || a.First(x.l) != x.first {
			t.Error(spell(x.text), "/", spell(x.l), a.Has(x.l), a.Count(x.l), a.First(x.l))
		}
	}
}

// P27.1 to P27.4: lines do not matter, neither in the text nor in the words.
func TestLines(t *testing.T) {
	a := built(t, []api.Lexeme{{Text: "a", Line: 1}, {Text: "b", Line: 2}, {Text: "a", Line: -3}, {Text: "a", Line: 1 << 60}})
	if a.States() != 5 || a.Runs() != 8 {
		t.Error(a.States(), a.Runs())
	}
	for _, line := range []int{0, 1, -3, 9999} {
		one := []api.Lexeme{{Text: "a", Line: line}}
		if !a.Has(one) || a.Count(one) != 3 || a.First(one) != 0 {
			t.Error(line)
		}
		two := []api.Lexeme{{Text: "c", Line: line}, {Text: "b", Line: line}, {Text: "a", Line: line}}
		if got := a.Ends(two); !slices.Equal(got, []int{0, 1, 2}) || longest(a, two) != [3]int{1, 1, 2} {
			t.Error(line, got)
		}
	}
}

// P27.2: classes and runs.
func TestStates(t *testing.T) {
	for _, x := range []struct {
		text         []api.Lexeme
		states, runs int
	}{
		{nil, 1, 0}, {[]api.Lexeme{}, 1, 0}, {letters("a"), 2, 1}, {words(""), 2, 1},
		{letters("aa"), 3, 2}, {letters("ab"), 3, 3}, {letters("aaa"), 4, 3}, {letters("abc"), 4, 6}, {letters("aba"), 4, 5}, {letters("abb"), 5, 5}, {letters("aab"), 4, 5},
		{letters("abbb"), 7, 7}, {letters("abbbb"), 9, 9}, {letters("abcbc"), 8, 12}, {words("", "a", ""), 4, 5},
		{repeated("a", 100), 101, 100}, {numbered(0, 100), 101, 5050},
	} {
		if a := built(t, x.text); a.States() != x.states || a.Runs() != x.runs {
			t.Error(spell(x.text), a.States(), a.Runs())
		}
	}
}

// P27.3: the longest runs that end with each word.
func TestEnds(t *testing.T) {
	for _, x := range []struct {
		text, l []api.Lexeme
		want    []int
	}{
		{nil, nil, nil}, {letters("ab"), nil, nil}, {letters("ab"), []api.Lexeme{}, nil}, {nil, letters("ab"), []int{0, 0}},
		{letters("ab"), letters("ab"), []int{1, 2}}, {letters("ab"), letters("ba"), []int{1, 1}}, {letters("ab"), letters("abab"), []int{1, 2, 1, 2}},
		// a strange word between others, in front and behind
		{letters("abc"), letters("abxc"), []int{1, 2, 0, 1}}, {letters("abc"), letters("axabcy"), []int{1, 0, 1, 2, 3, 0}}, {letters("abc"), letters("xyz"), []int{0, 0, 0}}, {letters("abc"), words("a", "", "b"), []int{1, 0, 1}},
		// a run that ends, and goes on with its own end
		{letters("aabaaab"), letters("aaab"), []int{1, 2, 3, 4}}, {letters("aabaaab"), letters("aaaab"), []int{1, 2, 3, 3, 4}}, {letters("abcabd"), letters("abcabcabd"), []int{1, 2, 3, 4, 5, 3, 4, 5, 6}},
		{letters("aaa"), letters("aaaaa"), []int{1, 2, 3, 3, 3}}, {words("", ""), words("", "", "", "a", ""), []int{1, 2, 2, 0, 1}},
	} {
		if got := built(t, x.text).Ends(x.l); !slices.Equal(got, x.want) {
			t.Error(spell(x.text), "/", spell(x.l), got)
		}
	}
}

// P27.4: the longest common run, the first one in the words, with its first place in the text.
func TestLongest(t *testing.T) {
	for _, x := range []struct {
		text, l []api.Lexeme
		want    [3]int
	}{
		// no word in common
		{nil, nil, [3]int{}}, {nil, letters("abc"), [3]int{}}, {letters("abc"), nil, [3]int{}}, {letters("abc"), letters("xyz"), [3]int{}}, {letters("abc"), words("", "ab", "abc"), [3]int{}},
		// several longest ones in the words
		{letters("abxcd"), letters("cdyab"), [3]int{3, 0, 2}}, {letters("abxcd"), letters("abycd"), [3]int{0, 0, 2}}, {letters("abxcd"), letters("yyabycdyab"), [3]int{0, 2, 2}}, {letters("abcd"), letters("dcba"), [3]int{3, 0, 1}},
		// a longer one behind a shorter one, and in front of it
		{letters("abcdxyz"), letters("xybcdab"), [3]int{1, 2, 3}}, {letters("abcdxyz"), letters("bcdxyab"), [3]int{1, 0, 5}},
		// several places in the text
		{letters("xabyabzab"), letters("uabu"), [3]int{1, 1, 2}}, {letters("aaaa"), letters("baab"), [3]int{0, 1, 2}}, {letters("zabcabcab"), letters("cab"), [3]int{3, 0, 3}}, {letters("zabcabcab"), letters("bca"), [3]int{2, 0, 3}},
		// the first place is that of the whole run, not that of its end
		{letters("bab"), letters("ab"), [3]int{1, 0, 2}}, {letters("ccabc"), letters("abc"), [3]int{2, 0, 3}},
		// the whole text, and all words
		{letters("abcab"), letters("abcab"), [3]int{0, 0, 5}}, {letters("ab"), letters("xxabab"), [3]int{0, 2, 2}}, {letters("xxab"), letters("ab"), [3]int{2, 0, 2}}, {letters("aaa"), letters("baaaa"), [3]int{0, 1, 3}},
		{words("", "", "a"), words("a", "", "a"), [3]int{1, 1, 2}},
	} {
		if got := longest(built(t, x.text), x.l); got != x.want {
			t.Error(spell(x.text), "/", spell(x.l), got)
		}
	}
}

// P27.1 to P27.4: a nil automaton, and one that was not built, stand for that of no words.
func TestNil(t *testing.T) {
	for _, a := range []*Automaton{nil, new(Automaton), built(t, nil)} {
		for _, l := range [][]api.Lexeme{nil, {}} {
			if !a.Has(l) || a.Count(l) != 1 || a.First(l) != 0 || len(a.Ends(l)) != 0 || longest(a, l) != [3]int{} {
				t.Error(a.Has(l), a.Count(l), a.First(l), a.Ends(l), longest(a, l))
			}
		}
		for _, l := range [][]api.Lexeme{letters("a"), words(""), letters("ab"), numbered(0, api.MaxWords+1)} {
			if a.Has(l) || a.Count(l) != 0 || a.First(l) != -1 || longest(a, l) != [3]int{} || !slices.Equal(a.Ends(l), make([]int, len(l))) {
				t.Error(spell(l), a.Has(l), a.Count(l), a.First(l), a.Ends(l), longest(a, l))
			}
		}
		if a.States() != 1 || a.Runs() != 0 {
			t.Error(a.States(), a.Runs())
		}
	}
}

// P27.1: too many words.
func TestBuildErrors(t *testing.T) {
	for _, l := range [][]api.Lexeme{repeated("a", api.MaxWords+1), numbered(0, api.MaxWords+1), repeated("", 3*api.MaxWords)} {
		if a, e := Build(l); a != nil || e != api.ErrTooLarge {
			t.Error(len(l), a, e)
		}
	}
}

// P27.1 to P27.4: as many words as possible, all equal.
func TestEqualWords(t *testing.T) {
	const n = api.MaxWords
	full := repeated("a", n)
	a := built(t, full)
	if a.States() != n+1 || a.Runs() != n {
		t.Error(a.States(), a.Runs())
	}
	for _, length := range []int{0, 1, 2, n / 2, n - 1, n} {
		if l := full[:length]; !a.Has(l) || a.Count(l) != n+1-length || a.First(l) != 0 {
			t.Error(length, a.Has(l), a.Count(l), a.First(l))
		}
	}
	more := repeated("a", n+2)
	if a.Has(more) || a.Count(more) != 0 || a.First(more) != -1 || longest(a, more) != [3]int{0, 0, n} {
		t.Error(a.Count(more), a.First(more), longest(a, more))
	}
	if ends := a.Ends(more); len(ends) != n+2 || ends[0] != 1 || ends[n-1] != n || ends[n] != n || ends[n+1] != n {
		t.Error(len(ends))
	}
	// the word in front of equal ones makes the most states
	if a := built(t, slices.Concat(letters("b"), full[1:])); a.States() != 2*n-1 || a.Runs() != 2*n-1 || a.Count(full[:2]) != n-2 || a.First(full[:2]) != 1 {
		t.Error(a.States(), a.Runs())
	}
}

// P27.1 to P27.4: as many words as possible, all different.
func TestDifferentWords(t *testing.T) {
	const n = api.MaxWords
	full := numbered(0, n)
	a := built(t, full)
	if a.States() != n+1 || a.Runs() != n*(n+1)/2 {
		t.Error(a.States(), a.Runs())
	}
	if a.Count(nil) != n+1 || a.Count(full) != 1 || a.First(full) != 0 || a.First(full[n-1:]) != n-1 || a.Has(numbered(n-1, 2)) {
		t.Error(a.Count(nil), a.Count(full), a.First(full))
	}
	l := slices.Concat(full[5000:], letters("x"), full[:5000])
	if got := longest(a, l); got != [3]int{0, n - 5000 + 1, 5000} {
		t.Error(got)
	}
	for i, got := range a.Ends(l) {
		if want := (i + 1) % (n - 5000 + 1); i < n-5000 && got != want || i == n-5000 && got != 0 || i > n-5000 && got != i-n+5000 {
			t.Fatal(i, got)
		}
	}
}
