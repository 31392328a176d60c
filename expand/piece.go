package expand

import "licit/api"

// setWord is the number of bits of a word of a set.
const setWord = 64

// set is a set of names of macros: it has a bit for each number of a name. As there are MaxTokens expansions at most, no more numbers are needed.
type set [api.MaxTokens / setWord]uint64

// piece is a token of a line that is expanded, with the names that are hidden in it.
type piece struct {
	api.Token
	hidden set
}

// has says whether a number is in a set.
func (s set) has(n int) bool { return s[n/setWord]>>(n%setWord)&1 == 1 }

// only returns the set with one number.
func only(n int) set {
	var s set
	s[n/setWord] = 1 << (n % setWord)
	return s
}

// union returns the numbers of some sets.
func union(sets ...set) set {
	var all set
	for _, s := range sets {
		for i, word := range s {
			all[i] |= word
		}
	}
	return all
}

// piecesOf returns tokens in which no name is hidden.
func piecesOf(tokens []api.Token) []piece {
	var pieces []piece
	for _, t := range tokens {
		pieces = append(pieces, piece{Token: t})
	}
	return pieces
}

// hide returns pieces in which further names are hidden.
func hide(pieces []piece, hidden set) []piece {
	var hiding []piece
	for _, p := range pieces {
		hiding = append(hiding, piece{p.Token, union(p.hidden, hidden)})
	}
	return hiding
}

// tokensOf returns the tokens of pieces.
func tokensOf(pieces []piece) []api.Token {
	var tokens []api.Token
	for _, p := range pieces {
		tokens = append(tokens, p.Token)
	}
	return tokens
}
