package expr

import (
	"slices"
	"strings"
	"testing"

	"licit/api"
	"licit/token"
)

// P8.1: formulas with the texts of their tokens.
func TestPrint(t *testing.T) {
	for _, x := range []struct{ words, want string }{
		{"1 2 + a 3 - *", "( 1 + 2 ) * ( a - 3 )"},
		{"1 2 * a +", "1 * 2 + a"},
		{"a b c - -", "a - ( b - c )"},
		{"0", "0"}, {"4294967295", "4294967295"}, {"a", "a"}, {"_1", "_1"}, {"?", "in ( )"}, {"a @", "load ( a )"},
		{"f/0", "f ( )"}, {"a f/1", "f ( a )"}, {"a b f/2", "f ( a , b )"}, {"1 2 3 4 5 6 7 8 f/8", "f ( 1 , 2 , 3 , 4 , 5 , 6 , 7 , 8 )"},
		{"a b || f/1", "f ( a || b )"}, {"a b || c d || f/2", "f ( a || b , c || d )"}, {"a b || @", "load ( a || b )"}, {"a f/1 @ g/1", "g ( load ( f ( a ) ) )"},
		// operations of one level
		{"a b - c -", "a - b - c"}, {"a b + c +", "a + b + c"}, {"a b c + +", "a + ( b + c )"}, {"a b && c &&", "a && b && c"}, {"a b c && &&", "a && ( b && c )"},
		{"a b / c *", "a / b * c"}, {"a b c / *", "a * ( b / c )"}, {"a b == c !=", "a == b != c"}, {"a b c == !=", "a != ( b == c )"}, {"a b - c d - -", "a - b - ( c - d )"},
		// unary operations
		{"a u-", "- a"}, {"a u- u- u~ u!", "! ~ - - a"}, {"a b + u-", "- ( a + b )"}, {"a b * u!", "! ( a * b )"}, {"a u- b *", "- a * b"}, {"a b u- *", "a * - b"}, {"a b u- -", "a - - b"},
		{"a b + u- u-", "- - ( a + b )"}, {"? u-", "- in ( )"}, {"a @ u-", "- load ( a )"}, {"a u- @", "load ( - a )"}, {"a f/1 u~", "~ f ( a )"}, {"a u~ f/1", "f ( ~ a )"}, {"1 u- u-", "- - 1"},
		// all levels
		{"a b c d e f g h i j k * + << < == & ^ | && ||", "a || b && c | d ^ e & f == g < h << i + j * k"},
		{"a b || c && d | e ^ f & g == h < i << j + k *", "( ( ( ( ( ( ( ( ( a || b ) && c ) | d ) ^ e ) & f ) == g ) < h ) << i ) + j ) * k"},
		{"a b c || &&", "a && ( b || c )"}, {"a b c && ||", "a || b && c"}, {"a b || c &&", "( a || b ) && c"}, {"a b && c ||", "a && b || c"},
	} {
		l, e := Print(formula(x.words))
		text, e2 := token.Print(l)
		if e != api.OK || e2 != api.OK || text != x.want || !slices.Equal(l, tokens(x.want)) {
			t.Error(x.words, e, text)
		}
	}
}

// P8.1: a printed expression has at most MaxTokens tokens, of a formula that is not too long.
func TestPrintSize(t *testing.T) {
	for i, x := range []struct {
		words string
		n     int
		e     api.Errno
	}{
		{"1" + strings.Repeat(" u-", api.MaxTokens-1), api.MaxTokens, api.OK},
		{"1" + strings.Repeat(" u-", api.MaxTokens), 0, api.ErrTooLarge},
		{"1" + strings.Repeat(" 1 +", (api.MaxTokens-2)/2), api.MaxTokens - 1, api.OK},
		{"1 u-" + strings.Repeat(" 1 +", (api.MaxTokens-2)/2), api.MaxTokens, api.OK},
		{"1 u- u-" + strings.Repeat(" 1 +", (api.MaxTokens-2)/2), 0, api.ErrTooLarge},
		{"? u-" + strings.Repeat(" ? +", 63), api.MaxTokens, api.OK},
		{"? u- u-" + strings.Repeat(" ? +", 63), 0, api.ErrTooLarge},
		{"f/0" + strings.Repeat(" @", 84) + " u-", api.MaxTokens, api.OK},
		{"f/0" + strings.Repeat(" @", 85), 0, api.ErrTooLarge},
		{"f/0" + strings.Repeat(" @", api.MaxTokens-1), 0, api.ErrTooLarge},
		// each sum, and each right side of a sum, has a pair of parentheses
		{"1" + strings.Repeat(" 1 + 2 *", 42), 42*6 + 1, api.OK},
		{"1" + strings.Repeat(" 1 + 2 *", 43), 0, api.ErrTooLarge},
		{strings.Repeat("1 ", 65) + strings.Repeat("+ ", 64), 65 + 64 + 2*63, api.OK},
		{strings.Repeat("1 ", 66) + strings.Repeat("+ ", 65), 0, api.ErrTooLarge},
	} {
		l, e := Print(formula(x.words))
		if e != x.e || len(l) != x.n {
			t.Error(i, e, len(l))
		}
	}
}

// P8.1 and P8.4: formulas that are too deep to be parsed are printed.
func TestPrintDeep(t *testing.T) {
	for _, x := range []struct {
		words string
		e     api.Errno
	}{
		{"1" + strings.Repeat(" u-", api.MaxDepth+1), api.OK},
		{"1" + strings.Repeat(" u-", api.MaxDepth+2), api.ErrDeep},
		{"1" + strings.Repeat(" @", api.MaxDepth+1), api.OK},
		{"1" + strings.Repeat(" @", api.MaxDepth+2), api.ErrDeep},
		{strings.Repeat("1 ", api.MaxDepth+3) + strings.Repeat("+ ", api.MaxDepth+2), api.OK},
		{strings.Repeat("1 ", api.MaxDepth+4) + strings.Repeat("+ ", api.MaxDepth+3), api.ErrDeep},
	} {
		f := formula(x.words)
		l, e := Print(f)
		if e != api.OK || len(l) == 0 {
			t.Error(x.words, e)
		}
		if g, e := Parse(l); e != x.e || e == api.OK && !slices.Equal(f, g) {
			t.Error(x.words, e, g)
		}
	}
}
