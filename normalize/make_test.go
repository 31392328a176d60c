package normalize

import (
	"math"
	"math/rand"
	"slices"
	"strconv"
	"strings"

	"licit/api"
)

// word returns a word of a line.
func word(text string, line int) api.Lexeme { return api.Lexeme{Text: text, Line: line} }

// text returns a text with some lines, each written as its number and its words, with a blank between two of them.
func text(path string, lines ...string) api.Text {
	t := api.Text{Path: path}
	for _, line := range lines {
		parts := strings.Split(line, " ")
		n, err := strconv.Atoi(parts[0])
		if err != nil {
			panic(line)
		}
		for _, part := range parts[1:] {
			t.Words = append(t.Words, word(part, n))
		}
	}
	return t
}

// equal says whether two texts are the same.
func equal(a, b api.Text) bool { return a.Path == b.Path && slices.Equal(a.Words, b.Words) }

// isZero says whether a text is the zero value, as it has to be beside an error.
func isZero(t api.Text) bool { return t.Path == "" && len(t.Words) == 0 }

// longPath is a path of MaxPath bytes.
func longPath() string {
	part := strings.Repeat("p", api.MaxName)
	return part + "/" + part + "/" + part + "/" + strings.Repeat("q", api.MaxPath-3*(api.MaxName+1))
}

// badPaths are strings that are no paths.
func badPaths() []string {
	return []string{"", "/", "A", "a/", "/a", "a//b", "a b", ".a", "-a", "a\n", "ä", longPath() + "q", "a/b/c/d/e/f/g/h/i", strings.Repeat("p", api.MaxName+1)}
}

// many returns n words of the line 0, 1, ..., with some in each line.
func many(n int) api.Text {
	t := api.Text{Path: "many"}
	for i := range n {
		t.Words = append(t.Words, word("w"+strconv.Itoa(i%10), min(i/10, api.MaxLines-1)))
	}
	return t
}

// validTexts returns texts of words that are valid.
func validTexts() []api.Text {
	return []api.Text{
		{Path: "a"},
		{Path: "a", Words: []api.Lexeme{}},
		{Path: longPath()},
		{Path: "a/b/c/d/e/f/g/h"},
		text("a/x", "0 let x1 = 10 ;", "2 let y"),
		text("a", "0 $n $n = $0 ;"),
		text("a", "1023 x"),
		text("a", "0 x", "1023 x"),
		text("a", "7 x", "7 y", "7 z"),
		// words that are none of any line
		text("a", "0 let+x1 a.b $ 007 note", "0 2"),
		{Path: "a", Words: []api.Lexeme{word("!", 0), word("~", 0), word("\x80", 0), word("\xff", 0), word("ä\u00a0\u2003", 0), word("\xc2", 0), word("\xc2\xe3\x80", 0)}},
		{Path: "a", Words: []api.Lexeme{word(strings.Repeat("w", 1000000), 0)}},
		many(api.MaxWords - 1),
		many(api.MaxWords),
	}
}

// invalidTexts returns texts of words that break one of the conditions, some of them several.
func invalidTexts() []api.Text {
	var l []api.Text
	for _, path := range badPaths() {
		l = append(l, api.Text{Path: path}, text(path, "0 x"))
	}
	l = append(l, many(api.MaxWords+1), many(2*api.MaxWords), text("A", "-1 x"))
	wrong := []api.Lexeme{word("", 5), word("x", -1), word("x", math.MinInt), word("x", api.MaxLines), word("x", math.MaxInt)}
	for c := range 256 {
		if c <= 32 || c == 127 {
			b := string([]byte{byte(c)})
			wrong = append(wrong, word(b, 5), word(b+"x", 5), word("x"+b, 5), word("x"+b+"y", 5), word("\xc2"+b, 5), word(b+"\x80", 5))
		}
	}
	for _, w := range wrong {
		l = append(l,
			api.Text{Path: "a", Words: []api.Lexeme{w}},
			api.Text{Path: "a", Words: []api.Lexeme{word("x", 0), w}},
			api.Text{Path: "a", Words: []api.Lexeme{w, word("x", api.MaxLines-1)}})
	}
	return append(l,
		text("a", "1 x", "0 x"), text("a", "1023 x", "1022 x"), text("a", "0 x", "2 x", "1 x"), text("a", "5 x", "6 y", "5 z", "7 x"),
		text("a", "0 x", "-1 x"), text("a", "1023 x", "1024 x"))
}

// someBlanks returns some blanks, at least so many.
func someBlanks(r *rand.Rand, least int) string {
	var b []byte
	for range least + r.Intn(3) {
		c := byte(r.Intn(33))
		if c == '\n' {
			c = 127
		}
		b = append(b, c)
	}
	return string(b)
}

// someData returns lines at random, which often contain notes, and words from a few.
func someData(r *rand.Rand) string {
	words := []string{"note", "note", "x", "y", "ab", "x_1", "_", "Z", "notes", "Note", "0", "1", "2", "3", "02", "1a", "10000", "=", ";", "(", "é", "\xff", "$", "$n"}
	var lines []string
	for range r.Intn(8) {
		line := someBlanks(r, 0)
		for range r.Intn(4) {
			line += words[r.Intn(len(words))] + someBlanks(r, r.Intn(2))
		}
		if r.Intn(4) == 0 {
			line = "note " + strconv.Itoa(r.Intn(4))
		}
		lines = append(lines, line)
	}
	return strings.Join(lines, "\n")
}
