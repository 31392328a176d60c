package token

import (
	"slices"
	"strings"
	"testing"

	"licit/api"
)

// allSymbols are the symbols, divided by blanks, those of two characters first.
const allSymbols = "|| && == != <= >= << >> | ^ & < > + - * / % ~ ! ( ) , ="

// longName returns a name of n characters.
func longName(n int) string { return "n" + strings.Repeat("0", n-1) }

// kindOf returns the kind that a token with a text has.
func kindOf(text string) int {
	switch {
	case strings.Contains("abcdefghijklmnopqrstuvwxyz_", text[:1]):
		return api.TokenName
	case strings.Contains("0123456789", text[:1]):
		return api.TokenNumber
	}
	return api.TokenSymbol
}

// tokens returns the tokens with some texts.
func tokens(texts ...string) []api.Token {
	var l []api.Token
	for _, s := range texts {
		l = append(l, api.Token{Kind: kindOf(s), Text: s})
	}
	return l
}

// P5.1: lines with their tokens, which are written with a blank between two of them.
func TestTokens(t *testing.T) {
	for _, x := range []struct{ line, want string }{
		{"", ""}, {" ", ""}, {"      ", ""}, {strings.Repeat(" ", api.MaxData), ""},
		{"let x1=y<<2", "let x1 = y << 2"},
		{"a<=-1", "a <= - 1"},
		{"x", "x"}, {"_", "_"}, {"__", "__"}, {"_1", "_1"}, {"a_b_2", "a_b_2"}, {"az09_", "az09_"},
		{"  x  ", "x"}, {"x y", "x y"}, {"x    y", "x y"},
		{longName(api.MaxName), longName(api.MaxName)},
		{longName(api.MaxName) + " " + longName(api.MaxName), longName(api.MaxName) + " " + longName(api.MaxName)},
		{"0", "0"}, {"7", "7"}, {"10", "10"}, {"4294967295", "4294967295"}, {"1234567890 0", "1234567890 0"},
		{"1+2", "1 + 2"}, {"1 2", "1 2"}, {"1 x", "1 x"}, {"x-1", "x - 1"}, {"0,x", "0 , x"}, {"(0)", "( 0 )"},
		{"f(a,b)", "f ( a , b )"},
		// of symbols that could stand, the longest one is taken
		{"|||", "|| |"}, {"||||", "|| ||"}, {"&&&", "&& &"}, {"===", "== ="}, {"!==", "!= ="}, {"!!=", "! !="},
		{"<<=", "<< ="}, {"<<<", "<< <"}, {"<=<", "<= <"}, {"<==", "<= ="}, {"=<=", "= <="}, {">>>=", ">> >="}, {">==", ">= ="},
		{"<>", "< >"}, {"><", "> <"}, {"=!", "= !"}, {"=>", "= >"}, {"=&", "= &"}, {"|&", "| &"}, {"&|", "& |"}, {"~!", "~ !"},
		{"**", "* *"}, {"//", "/ /"}, {"--", "- -"}, {"++", "+ +"}, {"^^", "^ ^"}, {"%%", "% %"}, {"~~", "~ ~"}, {",,", ", ,"}, {"!!", "! !"},
		{"| |", "| |"}, {"< <", "< <"}, {"= =", "= ="}, {"()", "( )"},
		{strings.ReplaceAll(allSymbols, " ", "x"), strings.ReplaceAll(allSymbols, " ", " x ")},
		{allSymbols, allSymbols},
	} {
		l, e := Tokens(x.line)
		if want := tokens(strings.Fields(x.want)...); e != api.OK || !slices.Equal(l, want) {
			t.Error(x.line[:min(len(x.line), 100)], e, l)
		}
	}
}

// P5.1: the error of a line is the first one from left to right.
func TestTokensErrors(t *testing.T) {
	for i, x := range []struct {
		line string
		e    api.Errno
	}{
		{longName(api.MaxName + 1), api.ErrName},
		{strings.Repeat("_", 1000), api.ErrName},
		{"x " + longName(api.MaxName+1) + " y", api.ErrName},
		{"01", api.ErrSyntax}, {"00", api.ErrSyntax}, {"007", api.ErrSyntax}, {"x=01", api.ErrSyntax},
		{"04294967296", api.ErrSyntax}, {"00000000000000000000000000", api.ErrSyntax},
		{"4294967296", api.ErrRange}, {"4294967300", api.ErrRange}, {"10000000000", api.ErrRange},
		{"18446744073709551616", api.ErrRange}, {"18446744073709551617", api.ErrRange}, {strings.Repeat("9", 1000), api.ErrRange},
		// a number directly in front of a name, whose error is that of the number, if it has one
		{"2x", api.ErrSyntax}, {"2_", api.ErrSyntax}, {"0x", api.ErrSyntax}, {"0x10", api.ErrSyntax}, {"1e", api.ErrSyntax}, {"x=2x", api.ErrSyntax},
		{"4294967295x", api.ErrSyntax}, {"4294967296x", api.ErrRange}, {"01x", api.ErrSyntax},
		{"2" + longName(api.MaxName+1), api.ErrSyntax},
		// bytes with which no token begins
		{"A", api.ErrSyntax}, {"aB", api.ErrSyntax}, {".", api.ErrSyntax}, {"a.b", api.ErrSyntax}, {"1.5", api.ErrSyntax}, {"@", api.ErrSyntax},
		{"\t", api.ErrSyntax}, {"\n", api.ErrSyntax}, {"x\n", api.ErrSyntax}, {"x\r", api.ErrSyntax}, {"\x00", api.ErrSyntax},
		{"ä", api.ErrSyntax}, {"\xff", api.ErrSyntax}, {"x\u00a0y", api.ErrSyntax}, {"٣", api.ErrSyntax},
		{"2A", api.ErrSyntax}, {"[", api.ErrSyntax}, {"{", api.ErrSyntax}, {"`", api.ErrSyntax}, {"'", api.ErrSyntax}, {"\"", api.ErrSyntax}, {"#", api.ErrSyntax}, {":", api.ErrSyntax}, {";", api.ErrSyntax}, {"?", api.ErrSyntax}, {"$", api.ErrSyntax}, {"\\", api.ErrSyntax}, {"]", api.ErrSyntax}, {"}", api.ErrSyntax},
		// several errors
		{longName(api.MaxName+1) + " 01 4294967296", api.ErrName},
		{"01 " + longName(api.MaxName+1) + " 4294967296", api.ErrSyntax},
		{"4294967296 A 01 " + longName(api.MaxName+1), api.ErrRange},
		{"A 4294967296", api.ErrSyntax},
		{"4294967296A", api.ErrRange},
		{longName(api.MaxName+1) + "A", api.ErrName},
		{"x " + longName(api.MaxName+1) + strings.Repeat(" x", api.MaxTokens), api.ErrName},
		{strings.Repeat("A", api.MaxData), api.ErrSyntax},
		{strings.Repeat("a", api.MaxData), api.ErrName},
		{strings.Repeat("a", api.MaxData+1), api.ErrTooLarge},
		{strings.Repeat("A", api.MaxData+1), api.ErrTooLarge},
		{strings.Repeat(" ", api.MaxData+1), api.ErrTooLarge},
	} {
		if l, e := Tokens(x.line); e != x.e || len(l) != 0 {
			t.Error(i, x.line[:min(len(x.line), 100)], e, l)
		}
	}
}

// P5.1: behind MaxTokens tokens only blanks can stand, and what stands there is not looked at.
func TestManyTokens(t *testing.T) {
	for i, x := range []struct {
		line string
		n    int
		e    api.Errno
	}{
		{strings.Repeat("x ", api.MaxTokens), api.MaxTokens, api.OK},
		{strings.Repeat("(", api.MaxTokens), api.MaxTokens, api.OK},
		{strings.Repeat("((", api.MaxTokens/2) + "     ", api.MaxTokens, api.OK},
		{strings.Repeat("x ", api.MaxTokens-1), api.MaxTokens - 1, api.OK},
		{strings.Repeat("x ", api.MaxTokens-1) + "A", 0, api.ErrSyntax},
		{strings.Repeat("x ", api.MaxTokens-1) + "4294967296", 0, api.ErrRange},
		{strings.Repeat("x ", api.MaxTokens-1) + longName(api.MaxName+1), 0, api.ErrName},
		{strings.Repeat("x ", api.MaxTokens) + "x", 0, api.ErrTooLarge},
		{strings.Repeat("(", api.MaxTokens) + "   )", 0, api.ErrTooLarge},
		{strings.Repeat("(", api.MaxTokens) + ")", 0, api.ErrTooLarge},
		{strings.Repeat("(", api.MaxTokens) + "A", 0, api.ErrTooLarge},
		{strings.Repeat("(", api.MaxTokens) + "\n", 0, api.ErrTooLarge},
		{strings.Repeat("(", api.MaxTokens) + " 4294967296", 0, api.ErrTooLarge},
		{strings.Repeat("(", api.MaxTokens) + " 01", 0, api.ErrTooLarge},
		{strings.Repeat("(", api.MaxTokens) + " " + longName(api.MaxName+1), 0, api.ErrTooLarge},
		{strings.Repeat("(", api.MaxTokens-1) + "2x", 0, api.ErrSyntax},
	} {
		if l, e := Tokens(x.line); e != x.e || len(l) != x.n {
			t.Error(i, e, len(l))
		}
	}
}

// P5.2: texts of tokens, and lists that have none.
func TestPrint(t *testing.T) {
	for i, x := range []struct {
		l    []api.Token
		text string
		e    api.Errno
	}{
		{nil, "", api.OK},
		{[]api.Token{}, "", api.OK},
		{tokens("x"), "x", api.OK},
		{tokens("let", "x1", "=", "y", "<<", "2"), "let x1 = y << 2", api.OK},
		{tokens("0", "4294967295"), "0 4294967295", api.OK},
		{tokens("|", "|", "a", "b"), "| | a b", api.OK},
		{tokens(longName(api.MaxName)), longName(api.MaxName), api.OK},
		{tokens(strings.Fields(allSymbols)...), allSymbols, api.OK},
		{slices.Repeat(tokens("x"), api.MaxTokens), strings.Repeat(" x", api.MaxTokens)[1:], api.OK},
		{slices.Repeat(tokens("x"), api.MaxTokens+1), "", api.ErrTooLarge},
		{slices.Repeat(tokens("A"), api.MaxTokens+1), "", api.ErrTooLarge},
		{slices.Repeat(tokens("A"), api.MaxTokens), "", api.ErrArg},
		{tokens("x", "A", "y"), "", api.ErrArg},
		{tokens("x", "y", "01"), "", api.ErrArg},
	} {
		if text, e := Print(x.l); e != x.e || text != x.text {
			t.Error(i, e, text)
		}
	}
}

// P5.2: which tokens are valid, with each kind.
func TestValidTokens(t *testing.T) {
	texts := append(strings.Fields(allSymbols), "", " ", "x", "_", "let", "data", "a1", "1a", "a b", " a", "a ", "A", "ä", "a-b", "\n",
		longName(api.MaxName), longName(api.MaxName+1), "0", "00", "01", "10", "4294967295", "4294967296", "-1", "+1", "1 ", "x1=",
		"|||", "=!", "<>", "| |", "&|", ".", ";", "!!", "<<=")
	for _, text := range texts {
		for kind := -1; kind <= 4; kind++ {
			right := false
			switch kind {
			case api.TokenName:
				right = slices.Contains([]string{"x", "_", "let", "data", "a1", longName(api.MaxName)}, text)
			case api.TokenNumber:
				right = slices.Contains([]string{"0", "10", "4294967295"}, text)
			case api.TokenSymbol:
				right = text != "" && strings.Contains(" "+allSymbols+" ", " "+text+" ") && !strings.Contains(text, " ")
			}
			want := api.ErrArg
			if right {
				want = api.OK
			}
			if got, e := Print([]api.Token{{Kind: kind, Text: text}}); e != want || e == api.OK && got != text || e != api.OK && got != "" {
				t.Error(kind, text, e, got)
			}
		}
	}
}

// P5.3: identifiers are names that are not keywords.
func TestNames(t *testing.T) {
	for _, s := range []string{"x", "_", "_1", "a_b", "z9", "lets", "le", "le_", "_let", "dat", "functions", "f", "fnx", "inn", "i", "note_", "main", "entry", "weaker", "go", longName(api.MaxName)} {
		if !Name(s) {
			t.Error(s)
		}
	}
	keywords := "let set if else while return do out store load in include define undef when unless note extern export weak fn data"
	for _, s := range append(strings.Fields(keywords), "", " ", "2", "2x", "A", "aB", "a-b", "a b", " a", "a ", "a.b", "a/b", "@a", "ä", "\xff", "\n", "a\n", "`", "{", "=", longName(api.MaxName+1), strings.Repeat("a", 1<<20)) {
		if Name(s) {
			t.Error(s)
		}
	}
}

// P5.3: values of numbers.
func TestNumbers(t *testing.T) {
	for _, x := range []struct {
		s string
		n uint32
		e api.Errno
	}{
		{"0", 0, api.OK}, {"1", 1, api.OK}, {"9", 9, api.OK}, {"10", 10, api.OK}, {"305419896", 305419896, api.OK},
		{"2147483648", 1 << 31, api.OK}, {"4294967294", 1<<32 - 2, api.OK}, {"4294967295", 1<<32 - 1, api.OK},
		{"4294967296", 0, api.ErrRange}, {"5000000000", 0, api.ErrRange}, {"9999999999", 0, api.ErrRange}, {"10000000000", 0, api.ErrRange},
		{"18446744073709551615", 0, api.ErrRange}, {"18446744073709551616", 0, api.ErrRange}, {strings.Repeat("1", 1<<20), 0, api.ErrRange},
		{"", 0, api.ErrSyntax}, {"00", 0, api.ErrSyntax}, {"01", 0, api.ErrSyntax}, {"0" + strings.Repeat("1", 100), 0, api.ErrSyntax},
		{"-1", 0, api.ErrSyntax}, {"+1", 0, api.ErrSyntax}, {"-0", 0, api.ErrSyntax}, {" 1", 0, api.ErrSyntax}, {"1 ", 0, api.ErrSyntax}, {"1_0", 0, api.ErrSyntax}, {"1x", 0, api.ErrSyntax}, {"x", 0, api.ErrSyntax}, {"0x1", 0, api.ErrSyntax}, {"1.", 0, api.ErrSyntax}, {"1e3", 0, api.ErrSyntax}, {"٣", 0, api.ErrSyntax}, {"1\n", 0, api.ErrSyntax}, {"1\x00", 0, api.ErrSyntax},
		{"99999999999x", 0, api.ErrSyntax}, {"/", 0, api.ErrSyntax}, {":", 0, api.ErrSyntax},
	} {
		if n, e := Number(x.s); e != x.e || n != x.n {
			t.Error(x.s[:min(len(x.s), 50)], e, n)
		}
	}
}
