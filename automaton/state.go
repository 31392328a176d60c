package automaton

import (
	"maps"

	"licit/api"
)

// none stands for no state.
const none = -1

// state stands for runs that are alike: some ends of the longest one of them.
type state struct {
	next   map[string]int // by word, the state of these runs with the word behind them
	suffix int            // the state of the longest end of these runs that is not alike; only the empty run has none
	length int            // that of the longest run
	end    int            // the least place at which the runs end
	count  int            // at how many places they end
}

// states are those of a text; the first one is that of the empty run.
type states []state

// begin returns the states of no words.
func begin() states {
	return states{{next: map[string]int{}, suffix: none, count: 1}}
}

// extend returns the states of a text with a word behind it, and which of them is that of the whole text; last is that of the text without the word.
func (s states) extend(last int, word string) (states, int) {
	all := len(s)
	length := s[last].length + 1
	s = append(s, state{next: map[string]int{}, length: length, end: length, count: 1})
	at := last
	for at != none {
		if _, found := s[at].next[word]; found {
			s = s.split(at, word)
			s[all].suffix = s[at].next[word]
			break
		}
		s[at].next[word] = all
		at = s[at].suffix
	}
	return s, all
}

// split returns the states in which the runs of a state with a word behind them have a state of their own: they end at one place more from now on, and longer runs that were like them do not.
func (s states) split(at int, word string) states {
	old := s[at].next[word]
	length := s[at].length + 1
	if s[old].length == length {
		return s
	}
	own := len(s)
	s = append(s, state{next: maps.Clone(s[old].next), suffix: s[old].suffix, length: length, end: s[old].end})
	s[old].suffix = own
	for at != none && s[at].next[word] == old {
		s[at].next[word] = own
		at = s[at].suffix
	}
	return s
}

// count finds out at how many places the runs of each state end, if so far each state knows only whether a beginning of the text, which has some length, is one of its runs.
func (s states) count(longest int) {
	byLength := make([][]int, longest+1)
	for at, x := range s {
		byLength[x.length] = append(byLength[x.length], at)
	}
	// where a run ends, each of its own ends does, too: the longest runs come first
	for n := range longest {
		for _, at := range byLength[longest-n] {
			s[s[at].suffix].count += s[at].count
		}
	}
}

// find returns the state of words, if they are a run of the text.
func (s states) find(l []api.Lexeme) (int, bool) {
	at := 0
	for _, word := range l {
		next, found := s[at].next[word.Text]
		if !found {
			return 0, false
		}
		at = next
	}
	return at, true
}

// step returns the state and the length of the longest run of the text that ends with a word, if a state and a length are given for the words in front of it.
func (s states) step(at, length int, word string) (int, int) {
	next, found := s[at].next[word]
	for !found && at > 0 {
		at = s[at].suffix
		length = s[at].length
		next, found = s[at].next[word]
	}
	if !found {
		return 0, 0
	}
	return next, length + 1
}
