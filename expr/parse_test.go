package expr

import (
	"slices"
	"strconv"
	"strings"
	"testing"

	"licit/api"
)

// nested returns a text n times, and something within it, and n times what ends the text.
func nested(begin string, n int, inner, end string) string {
	return strings.Repeat(begin, n) + inner + strings.Repeat(end, n)
}

// list returns n times a text, with commas between.
func list(text string, n int) string {
	return strings.Join(slices.Repeat([]string{text}, n), ",")
}

// P8.1: expressions with their formulas.
func TestParse(t *testing.T) {
	for _, x := range []struct{ line, want string }{
		{"a + b * -2", "a b 2 u- * +"},
		{"f(x, in())", "x ? f/2"},
		{"(1 + 2) * (a - 3)", "1 2 + a 3 - *"},
		{"a - (b - c)", "a b c - -"},
		{"2 * 3 + a", "2 3 * a +"},
		{"0", "0"}, {"4294967295", "4294967295"}, {"a", "a"}, {"_", "_"}, {"((a))", "a"}, {"(((7)))", "7"},
		{"lets", "lets"}, {"in_", "in_"}, {"load1", "load1"},
		// operations of one level
		{"a - b - c", "a b - c -"}, {"a - b + c - d", "a b - c + d -"}, {"a / b * c % d", "a b / c * d %"}, {"a << b >> c", "a b << c >>"}, {"a < b <= c > d >= e", "a b < c <= d > e >="}, {"a == b != c", "a b == c !="},
		{"a || b || c", "a b || c ||"}, {"a && b && c", "a b && c &&"}, {"a | b | c", "a b | c |"}, {"a ^ b ^ c", "a b ^ c ^"}, {"a & b & c", "a b & c &"},
		// all levels, upwards and downwards
		{"a || b && c | d ^ e & f == g < h << i + j * k", "a b c d e f g h i j k * + << < == & ^ | && ||"},
		{"a * b + c << d < e == f & g ^ h | i && j || k", "a b * c + d << e < f == g & h ^ i | j && k ||"},
		{"a * b + c * d", "a b * c d * +"}, {"a || b && c || d", "a b c && || d ||"},
		// unary operations
		{"-a", "a u-"}, {"~a", "a u~"}, {"!a", "a u!"}, {"-~!a", "a u! u~ u-"}, {"- - a", "a u- u-"}, {"!!a", "a u! u!"}, {"a - -b", "a b u- -"}, {"a - - -b", "a b u- u- -"},
		{"-a * b", "a u- b *"}, {"-(a * b)", "a b * u-"}, {"-a - b", "a u- b -"}, {"!a == b", "a u! b =="}, {"~(a)", "a u~"}, {"-f(a)", "a f/1 u-"}, {"-in()", "? u-"}, {"-load(a)", "a @ u-"},
		// calls
		{"f()", "f/0"}, {"f(a)", "a f/1"}, {"f((a))", "a f/1"}, {"f(a,b)", "a b f/2"}, {"f(a + b, c)", "a b + c f/2"}, {"f(g(a), h())", "a g/1 h/0 f/2"}, {"f(f(f(1)))", "1 f/1 f/1 f/1"}, {"a(a)", "a a/1"},
		{"f(a) + f(b)", "a f/1 b f/1 +"}, {"f(a || b)", "a b || f/1"}, {"f(-a, !b)", "a u- b u! f/2"},
		{"f(1,2,3,4,5,6,7,8)", "1 2 3 4 5 6 7 8 f/8"}, {"f(1,2,3,4,5,6,7,g(1,2,3,4,5,6,7,8))", "1 2 3 4 5 6 7 1 2 3 4 5 6 7 8 g/8 f/8"},
		{"(f)", "f"}, {"f + (a)", "f a +"},
		// load and in
		{"load(a)", "a @"}, {"load(a + 4)", "a 4 + @"}, {"load(load(a))", "a @ @"}, {"load((a))", "a @"}, {"in()", "?"}, {"in() - in()", "? ? -"}, {"load(in())", "? @"}, {"f(in(), load(1))", "? 1 @ f/2"},
		{strings.Repeat("-", api.MaxDepth+1) + "1", "1" + strings.Repeat(" u-", api.MaxDepth+1)},
		{"1" + strings.Repeat("+1", (api.MaxTokens-1)/2), "1" + strings.Repeat(" 1 +", (api.MaxTokens-1)/2)},
	} {
		f, e := Parse(tokens(x.line))
		if want := formula(x.want); e != api.OK || !slices.Equal(f, want) {
			t.Error(x.line, e, f)
		}
	}
}

// P8.1: for each two binary operations, those of the stronger level are done first, and those of one level from left to right.
func TestLevels(t *testing.T) {
	for i, row := range binaryOps {
		for j, other := range binaryOps {
			for _, first := range row {
				for _, second := range other {
					want := "a b " + first + " c " + second
					if i < j {
						want = "a b c " + second + " " + first
					}
					f, e := Parse(tokens("a " + first + " b " + second + " c"))
					if e != api.OK || !slices.Equal(f, formula(want)) {
						t.Error(first, second, e, f)
					}
					for _, op := range unaryOps {
						f, e := Parse(tokens("a " + first + op + " b " + second + " c"))
						if e != api.OK || !slices.Equal(f, formula(strings.Replace(want, " b ", " b u"+op+" ", 1))) {
							t.Error(first, op, second, e, f)
						}
					}
				}
			}
		}
	}
}

// P8.1: ErrSyntax, where tokens are no expression.
func TestParseSyntax(t *testing.T) {
	for _, line := range []string{
		"", "+", "*a", "a +", "a b", "a 1", "1 a", "1 2", "a + + b", "a * / b", "a &&", "|| a", "a !", "a ~", "a ! b", "a ~ b", "!", "-", "--", "a = b", "=", "a == = b", ",", "a, b", "a,",
		"(", ")", "()", "(a", "a)", "((a)", "(a))", "(a b)", "(a +)", "(a, b)", "(a)(b)", "(a) b", "a (b) c", "1(a)", "1()", "(a)b", ")a(",
		"f(", "f(a", "f(a,", "f(,)", "f(a,)", "f(,a)", "f(a,,b)", "f(a b)", "f(a)(b)", "f()()", "f((a,b))", "f(()", "f(())", "f(a))", "f a", "f(=)",
		"load", "load a", "load 1", "load()", "load(a", "load(a,b)", "load(a)b", "load + 1", "(load)", "load(,)", "load = 1", "load load", "f(load)", "load(a)(b)",
		"in", "in + 1", "in a", "in(", "in(a)", "in(1)", "in(())", "in)", "in in", "(in)", "in()()", "in(in())", "f(in)",
		"let", "let a", "set", "if", "else", "while", "return", "return a", "do", "out", "store", "include", "define", "undef", "when", "unless", "note", "extern", "export", "weak", "fn", "data",
		"a + if", "fn(a)", "data()", "f(let)", "(out)", "-note", "a + weak", "f(a, store)", "load(extern)",
	} {
		if f, e := Parse(tokens(line)); e != api.ErrSyntax || len(f) != 0 {
			t.Error(line, e, f)
		}
	}
}

// P8.1: too many tokens come first, and tokens that are not valid before all else.
func TestParseTokens(t *testing.T) {
	a := api.Token{Kind: api.TokenName, Text: "a"}
	for i, x := range []struct {
		l []api.Token
		e api.Errno
	}{
		{tokens(strings.Repeat("(", api.MaxTokens)), api.ErrDeep},
		{tokens(strings.Repeat("a ", api.MaxTokens)), api.ErrSyntax},
		{tokens("1" + strings.Repeat("+ 1", (api.MaxTokens-1)/2) + "+"), api.ErrSyntax},
		{append(tokens("1"+strings.Repeat("+ 1", (api.MaxTokens-1)/2)), tokens("+ 1")...), api.ErrTooLarge},
		{make([]api.Token, api.MaxTokens+1), api.ErrTooLarge},
		{make([]api.Token, 1<<20), api.ErrTooLarge},
		{make([]api.Token, api.MaxTokens), api.ErrArg},
		{[]api.Token{{}}, api.ErrArg},
		{[]api.Token{{Kind: api.TokenName, Text: "A"}}, api.ErrArg},
		{[]api.Token{{Kind: api.TokenName, Text: "1"}}, api.ErrArg},
		{[]api.Token{{Kind: api.TokenName, Text: ""}}, api.ErrArg},
		{[]api.Token{{Kind: api.TokenName, Text: strings.Repeat("n", api.MaxName+1)}}, api.ErrArg},
		{[]api.Token{{Kind: api.TokenNumber, Text: "01"}}, api.ErrArg},
		{[]api.Token{{Kind: api.TokenNumber, Text: "4294967296"}}, api.ErrArg},
		{[]api.Token{{Kind: api.TokenNumber, Text: "a"}}, api.ErrArg},
		{[]api.Token{{Kind: api.TokenSymbol, Text: "a"}}, api.ErrArg},
		{[]api.Token{{Kind: api.TokenSymbol, Text: ";"}}, api.ErrArg},
		{[]api.Token{{Kind: 4, Text: "a"}}, api.ErrArg},
		{[]api.Token{a, a, {Kind: api.TokenSymbol, Text: "++"}}, api.ErrArg},
		{append(tokens(strings.Repeat("(", 40)), api.Token{}), api.ErrArg},
		{append(tokens("f("+list("1", 9)+")"), api.Token{}), api.ErrArg},
	} {
		if f, e := Parse(x.l); e != x.e || len(f) != 0 {
			t.Error(i, e, f)
		}
	}
}

// P8.1: parentheses and unary operations can be within MaxDepth others, but not within more.
func TestParseDepth(t *testing.T) {
	const most = api.MaxDepth + 1 // the last one is within MaxDepth others
	for _, x := range []struct {
		begin, inner, end string
		deepest           int
	}{
		{"(", "a", ")", most}, {"-", "a", "", most}, {"! ", "1", "", most}, {"~", "0", "", most},
		{"f(", "", ")", most}, {"f(", "a", ")", most}, {"load(", "a", ")", most}, {"f(a, ", "b", ")", most}, {"(a + ", "b", ")", most}, {"a - (", "b", ")", most},
		// here one more is within them
		{"(a * (b) + ", "c", ")", most - 1}, {"f(-b, ", "a", ")", most - 1}, {"(-a + ", "b", ")", most - 1}, {"f(g(), ", "a", ")", most - 1}, {"(in() - ", "a", ")", most - 1},
		{"-(", "a", ")", most / 2}, {"f((", "a", "))", most / 2}, {"- -", "a", "", most / 2}, {"!load(", "a", ")", most / 2},
	} {
		if f, e := Parse(tokens(nested(x.begin, x.deepest, x.inner, x.end))); e != api.OK || len(f) == 0 {
			t.Error(x.begin, e)
		}
		if f, e := Parse(tokens(nested(x.begin, x.deepest+1, x.inner, x.end))); e != api.ErrDeep || len(f) != 0 {
			t.Error(x.begin, e)
		}
	}
	for _, x := range []struct {
		line string
		e    api.Errno
	}{
		{nested("(", api.MaxDepth, "a", ")"), api.OK},
		{nested("(", api.MaxDepth, "(a)", ")"), api.OK},
		{nested("(", api.MaxDepth, "((a))", ")"), api.ErrDeep},
		{nested("(", most, "in()", ")"), api.ErrDeep},
		{nested("(", most, "f()", ")"), api.ErrDeep},
		{nested("(", most, "load(a)", ")"), api.ErrDeep},
		{nested("(", most, "-a", ")"), api.ErrDeep},
		{nested("(", most, "a + -a", ")"), api.ErrDeep},
		{nested("(", most, "a - a", ")"), api.OK},
		{nested("-", most, "in()", ""), api.ErrDeep},
		{nested("-", most, "f(a)", ""), api.ErrDeep},
		{nested("-", most, "(a)", ""), api.ErrDeep},
		{nested("-", api.MaxDepth, "in()", ""), api.OK},
		{nested("-", api.MaxDepth, "f(a)", ""), api.OK},
		{nested("-(", most/2, "-a", ")"), api.OK},
		{nested("-(", most/2, "-(a)", ")"), api.ErrDeep},
		{nested("(-", most/2, "(a)", ")"), api.OK},
		{nested("(-", most/2, "(-a)", ")"), api.ErrDeep},
		{nested("f(load(", most/2, "in()", "))"), api.OK},
		{nested("f(load(", most/2, "g(in())", "))"), api.ErrDeep},
		// what has ended does not count
		{nested("-", most, "a", "") + "-" + nested("(", most, "a", ")"), api.OK},
		{"f(" + list(nested("(", api.MaxDepth, "a", ")"), 4) + ")", api.OK},
		{"f(" + list(nested("(", api.MaxDepth, "a", ")"), 4) + "," + nested("(", most, "a", ")") + ")", api.ErrDeep},
		{nested("-", most, "a", "") + "*" + nested("-", most, "a", "") + "+(" + nested("-", most, "a", "") + ")", api.ErrDeep},
		{nested("-", most, "a", "") + "*" + nested("-", most, "a", "") + "+(" + nested("-", api.MaxDepth, "a", "") + ")", api.OK},
	} {
		if _, e := Parse(tokens(x.line)); e != x.e {
			t.Error(x.line, e)
		}
	}
}

// P8.1: a call has at most MaxParams arguments.
func TestParseArguments(t *testing.T) {
	for n := 1; n <= api.MaxParams; n++ {
		f, e := Parse(tokens("f(" + list("a", n) + ")"))
		if e != api.OK || !slices.Equal(f, formula(strings.Repeat("a ", n)+"f/"+strconv.Itoa(n))) {
			t.Error(n, e, f)
		}
	}
	eight := list("a", api.MaxParams)
	for _, line := range []string{
		"f(" + list("a", api.MaxParams+1) + ")", "f(" + eight + ",", "f(" + eight + ",)", "f(" + eight + ", if", "f(" + eight + ",,)",
		"f(" + eight + "," + nested("(", 40, "a", ")") + ")", "g(f(" + eight + ",", "(f(" + eight + ", b)", "-f(" + list("-(a)", api.MaxParams+1) + ")", "f(" + list("f("+eight+")", api.MaxParams) + ",",
	} {
		if f, e := Parse(tokens(line)); e != api.ErrTooLarge || len(f) != 0 {
			t.Error(line, e, f)
		}
	}
	for _, line := range []string{
		"f(" + eight, "f(" + eight + " a", "f(" + eight + "))", "f((" + eight + "))", "f(" + list("a", api.MaxParams-1) + ",,", "f(" + list("a", api.MaxParams-1) + ",)", "load(" + list("a", api.MaxParams+1) + ")",
		"f(" + eight + "+ ,", "f(" + eight + "(,",
	} {
		if f, e := Parse(tokens(line)); e != api.ErrSyntax || len(f) != 0 {
			t.Error(line, e, f)
		}
	}
}

// P8.1: of several errors the first one from the left decides, whatever stands behind it.
func TestParseFirstError(t *testing.T) {
	deep := strings.Repeat("(", api.MaxDepth+2)
	many := "f(" + list("a", api.MaxParams) + ","
	for _, x := range []struct {
		line string
		e    api.Errno
	}{
		{"a b " + deep, api.ErrSyntax}, {"a b " + many, api.ErrSyntax}, {") " + deep, api.ErrSyntax}, {"= " + many, api.ErrSyntax},
		{deep, api.ErrDeep}, {deep + " a b", api.ErrDeep}, {deep + ")", api.ErrDeep}, {deep + many, api.ErrDeep}, {deep + "=", api.ErrDeep},
		{many + deep, api.ErrTooLarge}, {many + "a b", api.ErrTooLarge}, {many, api.ErrTooLarge},
		{"f(" + many + deep, api.ErrTooLarge}, {"f(" + deep + many, api.ErrDeep}, {"a + b(c d, " + many, api.ErrSyntax},
		// at one token: what cannot stand there is not too deep
		{strings.Repeat("(", api.MaxDepth+1) + "1 (", api.ErrSyntax},
		{strings.Repeat("(", api.MaxDepth+1) + "a ~", api.ErrSyntax},
		{strings.Repeat("(", api.MaxDepth+1) + "a (", api.ErrDeep},
		{strings.Repeat("(", api.MaxDepth+1) + "in (", api.ErrDeep},
		{strings.Repeat("(", api.MaxDepth+1) + "in ~", api.ErrSyntax},
		{strings.Repeat("(", api.MaxDepth+1) + "load (", api.ErrDeep},
		{strings.Repeat("(", api.MaxDepth+1) + "load -", api.ErrSyntax},
		{strings.Repeat("(", api.MaxDepth+1) + "~", api.ErrDeep},
		{strings.Repeat("(", api.MaxDepth+1) + "a - b", api.ErrSyntax},
		{strings.Repeat("(", api.MaxDepth+1) + "a - -", api.ErrDeep},
		{strings.Repeat("(", api.MaxDepth+1), api.ErrSyntax},
		// and a comma that cannot stand there is not one too many
		{"f(" + list("a", api.MaxParams-1) + ",(a,", api.ErrSyntax},
		{"f(" + list("a", api.MaxParams-1) + ",-,", api.ErrSyntax},
	} {
		if f, e := Parse(tokens(x.line)); e != x.e || len(f) != 0 {
			t.Error(x.line, e, f)
		}
	}
}
