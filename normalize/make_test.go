package normalize

import (
	"math/rand"
	"slices"
	"strconv"
	"strings"

	"licit/api"
	"licit/sample"
)

// word returns a word of a line.
func word(text string, line int) api.Lexeme { return api.Lexeme{Text: text, Line: line} }

// equal says whether two texts are the same.
func equal(a, b api.Text) bool { return a.Path == b.Path && slices.Equal(a.Words, b.Words) }

// isZero says whether a text is the zero value, as it has to be beside an error.
func isZero(t api.Text) bool { return t.Path == "" && len(t.Words) == 0 }

// validTexts returns texts of words that are valid.
func validTexts() []api.Text {
	return []api.Text{
		{Path: "a"},
		{Path: "a", Words: []api.Lexeme{}},
		{Path: sample.LongPath()},
		{Path: "a/b/c/d/e/f/g/h"},
		sample.Text("a/x", "0 let x1 = 10 ;", "2 let y"),
		sample.Text("a", "0 $n $n = $0 ;"),
		sample.Text("a", "1023 x"),
		sample.Text("a", "0 x", "1023 x"),
		sample.Text("a", "7 x", "7 y", "7 z"),
		// words that are none of any line
		sample.Text("a", "0 let+x1 a.b $ 007 note", "0 2"),
		{Path: "a", Words: []api.Lexeme{word("!", 0), word("~", 0), word("\x80", 0), word("\xff", 0), word("ä\u00a0\u2003", 0), word("\xc2", 0), word("\xc2\xe3\x80", 0)}},
		{Path: "a", Words: []api.Lexeme{word(strings.Repeat("w", 1000000), 0)}},
		sample.Many(api.MaxWords - 1),
		sample.Many(api.MaxWords),
	}
}

// someBlanks returns some blanks, at least so many.
func someBlanks(r *rand.Rand, least int) string {
	var b []byte
	for range least + r.Intn(3) {
		c := byte(r.Intn(33))
		if c == '\n' {
			c = 127
		}
		b = append(b, c)
	}
	return string(b)
}

// someData returns lines at random, which often contain notes, and words from a few.
func someData(r *rand.Rand) string {
	words := []string{"note", "note", "x", "y", "ab", "x_1", "_", "Z", "notes", "Note", "0", "1", "2", "3", "02", "1a", "10000", "=", ";", "(", "é", "\xff", "$", "$n"}
	var lines []string
	for range r.Intn(8) {
		line := someBlanks(r, 0)
		for range r.Intn(4) {
			line += words[r.Intn(len(words))] + someBlanks(r, r.Intn(2))
		}
		if r.Intn(4) == 0 {
			line = "note " + strconv.Itoa(r.Intn(4))
		}
		lines = append(lines, line)
	}
	return strings.Join(lines, "\n")
}
