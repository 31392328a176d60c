package sample

import (
	"math"
	"strconv"
	"strings"

	"licit/api"
)

// Text returns a text of words with some lines, each written as its number and its words, with a blank between two of them.
func Text(path string, lines ...string) api.Text {
	t := api.Text{Path: path}
	for _, line := range lines {
		parts := strings.Split(line, " ")
		// what is no number is no line of a text
		n, err := strconv.Atoi(parts[0])
		if err != nil {
			n = -1
		}
		for _, part := range parts[1:] {
			t.Words = append(t.Words, api.Lexeme{Text: part, Line: n})
		}
	}
	return t
}

// Many returns a text of n words, ten in a line, and the last ones in the last line that a text can have.
func Many(n int) api.Text {
	t := api.Text{Path: "many"}
	for i := range n {
		t.Words = append(t.Words, api.Lexeme{Text: "w" + strconv.Itoa(i%10), Line: min(i/10, api.MaxLines-1)})
	}
	return t
}

// Text returns a text of up to so many words, which are few different ones.
func (m Maker) Text(path string, most int) api.Text {
	t := api.Text{Path: path}
	line := 0
	for range m.Intn(most + 1) {
		t.Words = append(t.Words, api.Lexeme{Text: m.pick("a", "b", "c", "d"), Line: line})
		line += m.Intn(2)
	}
	return t
}

// LongPath returns a path of MaxPath bytes.
func LongPath() string {
	part := strings.Repeat("p", api.MaxName)
	return part + "/" + part + "/" + part + "/" + strings.Repeat("q", api.MaxPath-3*(api.MaxName+1))
}

// BadPaths returns strings that are no paths.
func BadPaths() []string {
	return []string{"", "/", "A", "a/", "/a", "a//b", "a b", ".a", "-a", "a\n", "ä", LongPath() + "q", "a/b/c/d/e/f/g/h/i", strings.Repeat("p", api.MaxName+1)}
}

// BadTexts returns texts of words that break one of the conditions of valid ones, some of them several.
func BadTexts() []api.Text {
	var l []api.Text
	for _, path := range BadPaths() {
		l = append(l, api.Text{Path: path}, Text(path, "0 x"))
	}
	l = append(l, Many(api.MaxWords+1), Many(2*api.MaxWords), Text("A", "-1 x"))
	for _, w := range badWords() {
		l = append(l,
			api.Text{Path: "a", Words: []api.Lexeme{w}},
			api.Text{Path: "a", Words: []api.Lexeme{{Text: "x", Line: 0}, w}},
			api.Text{Path: "a", Words: []api.Lexeme{w, {Text: "x", Line: api.MaxLines - 1}}})
	}
	return append(l,
		Text("a", "1 x", "0 x"), Text("a", "1023 x", "1022 x"), Text("a", "0 x", "2 x", "1 x"), Text("a", "5 x", "6 y", "5 z", "7 x"),
		Text("a", "0 x", "-1 x"), Text("a", "1023 x", "1024 x"))
}

// badWords returns words that no valid text has: without bytes, with blanks in them, or in lines that do not exist.
func badWords() []api.Lexeme {
	l := []api.Lexeme{{Text: "", Line: 5}}
	for _, n := range []int{-1, math.MinInt, api.MaxLines, math.MaxInt} {
		l = append(l, api.Lexeme{Text: "x", Line: n})
	}
	for c := range 256 {
		if c > 32 && c != 127 {
			continue
		}
		b := string([]byte{byte(c)})
		for _, text := range []string{b, b + "x", "x" + b, "x" + b + "y", "\xc2" + b, b + "\x80"} {
			l = append(l, api.Lexeme{Text: text, Line: 5})
		}
	}
	return l
}
