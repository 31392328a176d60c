package normalize

import (
	"strings"

	"licit/decimal"
)

// maxDigits is how many digits the number of a note has at most.
const maxDigits = 4

// leading returns how many letters, digits and underscores stand at the beginning of a string.
func leading(s string) int {
	n := strings.IndexFunc(s, func(c rune) bool {
		return c != '_' && (c < '0' || c > '9') && (c < 'a' || c > 'z') && (c < 'A' || c > 'Z')
	})
	if n < 0 {
		return len(s)
	}
	return n
}

// hasBlank says whether a string contains a blank.
func hasBlank(s string) bool {
	// a rune of more than one byte is no blank, and has none in it
	return strings.ContainsFunc(s, func(c rune) bool { return c <= ' ' || c == 127 })
}

// isWord says whether a string can be a word of a text.
func isWord(s string) bool { return s != "" && !hasBlank(s) }

// divide returns the words of a line.
func divide(line string) []string {
	var words []string
	for line != "" {
		// a byte that begins no name and no number is a word by itself, or a blank
		n := max(1, leading(line))
		if !hasBlank(line[:n]) {
			words = append(words, line[:n])
		}
		line = line[n:]
	}
	return words
}

// note returns how many lines behind a line with some words have no words because it is a note, and whether it is one.
func note(words []string) (int, bool) {
	if len(words) != 2 || words[0] != "note" {
		return 0, false
	}
	return decimal.Parse(words[1], maxDigits)
}

// class returns a word, or what stands for it, if it is a name or a number and these are classes.
func class(word string, names, numbers bool) string {
	isNumber := '0' <= word[0] && word[0] <= '9'
	switch {
	case isNumber && numbers:
		return "$0"
	case !isNumber && names && leading(word) > 0:
		return "$n"
	}
	return word
}
