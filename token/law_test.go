package token

import (
	"regexp"
	"slices"
	"strconv"
	"strings"
	"testing"

	"licit/api"
)

// shape matches, at the beginning of a string, a name, a run of digits, or a symbol, of which the longer ones stand first.
var shape = regexp.MustCompile(`^(?:([a-z_][a-z0-9_]*)|([0-9]+)|(\|\||&&|==|!=|<=|>=|<<|>>|[-|^&<>+*/%~!(),=]))`)

// model returns the tokens of a line by the words of the definition.
func model(line string) ([]api.Token, api.Errno) {
	var l []api.Token
	for line = strings.TrimLeft(line, " "); line != ""; line = strings.TrimLeft(line, " ") {
		if len(l) == api.MaxTokens {
			return nil, api.ErrTooLarge
		}
		m := shape.FindStringSubmatch(line)
		if m == nil {
			return nil, api.ErrSyntax
		}
		line = line[len(m[0]):]
		value, err := strconv.ParseFloat(m[0], 64)
		isNumber := m[2] != "" && err == nil
		switch {
		case m[1] != "" && len(m[1]) > api.MaxName:
			return nil, api.ErrName
		case isNumber && m[0][0] != '0' && value > 4294967295:
			return nil, api.ErrRange
		case isNumber && (len(m[0]) > 1 && m[0][0] == '0' || regexp.MustCompile(`^[a-z_]`).MatchString(line)):
			return nil, api.ErrSyntax
		}
		l = append(l, api.Token{Kind: kindOf(m[0]), Text: m[0]})
	}
	return l, api.OK
}

// eachLine passes all lines of up to n parts to a function.
func eachLine(parts []string, n int, use func(line string)) {
	use("")
	if n > 0 {
		eachLine(parts, n-1, func(rest string) {
			for _, p := range parts {
				use(p + rest)
			}
		})
	}
}

// P5.1: the tokens of short lines are those of the definition.
func TestTokensByDefinition(t *testing.T) {
	eachLine([]string{" ", "a", "_", "0", "1", "429496729", "|", "&", "=", "!", "<", ">", "-", ",", "A"}, 4, func(line string) {
		l, e := Tokens(line)
		if want, e2 := model(line); e != e2 || !slices.Equal(l, want) {
			t.Fatal(line, e, l)
		}
	})
}

// P5.1: the same for each byte, alone and between others.
func TestBytes(t *testing.T) {
	for c := range 256 {
		for _, line := range []string{"?", " ?", "a?", "1?", "0?", "=?", "?a", "?1", "a?b", "?=", "??", "a ? b"} {
			line = strings.ReplaceAll(line, "?", string([]byte{byte(c)}))
			l, e := Tokens(line)
			if want, e2 := model(line); e != e2 || !slices.Equal(l, want) {
				t.Fatalf("%q %d %v", line, e, l)
			}
		}
	}
}

// P5.2 and P5.4: the tokens of the text of valid tokens are these tokens, and what Tokens returns is valid.
func TestPrintAndTokens(t *testing.T) {
	eachLine([]string{" ", "a", "x9", "0", "17", "|", "&", "=", "!", "<", ">", "(", "let"}, 4, func(line string) {
		l, e := Tokens(line)
		if e != api.OK {
			return
		}
		text, e := Print(l)
		if again, e2 := Tokens(text); e != api.OK || e2 != api.OK || !slices.Equal(again, l) {
			t.Fatal(line, l, e, text, e2, again)
		}
	})
}

// P5.4: additional blanks between tokens, in front of them or behind them do not change them.
func TestBlanks(t *testing.T) {
	eachLine([]string{" ", "a", "12", "|", "=", "<"}, 5, func(line string) {
		l, e := Tokens(line)
		if e != api.OK {
			return
		}
		spread := "  "
		for _, x := range l {
			spread += x.Text + "   "
		}
		if again, e := Tokens(spread); e != api.OK || !slices.Equal(again, l) {
			t.Fatal(line, l, e, again)
		}
	})
}

// P5.4: the tokens of two lines with a blank between them are those of the first one and then those of the second one.
func TestTwoLines(t *testing.T) {
	var lines []string
	eachLine([]string{" ", "a", "1", "|", "="}, 3, func(line string) { lines = append(lines, line) })
	for _, first := range lines {
		for _, second := range lines {
			k, e := Tokens(first)
			l, e2 := Tokens(second)
			both, e3 := Tokens(first + " " + second)
			if want := max(e, e2); e3 != want || want == api.OK && !slices.Equal(both, slices.Concat(k, l)) {
				t.Fatal(first, second, e3, both)
			}
		}
	}
}

// P5.3: a name and a number are what is the one token of a line; keywords are not identifiers.
func TestWordsAreTokens(t *testing.T) {
	eachLine([]string{" ", "a", "_", "0", "1", "4294967295", "=", "A", "in", "fn"}, 4, func(s string) {
		l, _ := Tokens(s)
		single := len(l) == 1 && l[0].Text == s
		if want := single && l[0].Kind == api.TokenName && s != "in" && s != "fn"; Name(s) != want {
			t.Fatal(s)
		}
		n, e := Number(s)
		if want := single && l[0].Kind == api.TokenNumber; (e == api.OK) != want || want && strconv.Itoa(int(n)) != s {
			t.Fatal(s, n, e)
		}
	})
}
