package expr

import (
	"slices"
	"strconv"
	"strings"
	"testing"

	"licit/api"
	"licit/token"
)

// binaryOps are the binary operations, with those of one level in one row, from the weakest level to the strongest one.
var binaryOps = [][]string{{"||"}, {"&&"}, {"|"}, {"^"}, {"&"}, {"==", "!="}, {"<", "<=", ">", ">="}, {"<<", ">>"}, {"+", "-"}, {"*", "/", "%"}}

// unaryOps are the unary operations.
var unaryOps = []string{"-", "~", "!"}

// tokens returns the tokens of a line that has no error.
func tokens(line string) []api.Token {
	l, e := token.Tokens(line)
	if e != api.OK {
		panic(line)
	}
	return l
}

// opOf returns the operation that a word stands for: 7, a, f/2 (a call), @ (load), ? (in), u- (unary), + (binary).
func opOf(word string) api.Op {
	if n, e := token.Number(word); e == api.OK {
		return api.Op{Kind: api.OpNumber, N: n}
	}
	if op, found := strings.CutPrefix(word, "u"); found {
		return api.Op{Kind: api.OpUnary, Text: op}
	}
	if name, count, found := strings.Cut(word, "/"); found && name != "" {
		n, _ := strconv.Atoi(count)
		return api.Op{Kind: api.OpCall, Text: name, N: uint32(n)}
	}
	switch {
	case word == "@":
		return api.Op{Kind: api.OpLoad}
	case word == "?":
		return api.Op{Kind: api.OpIn}
	case token.Name(word):
		return api.Op{Kind: api.OpName, Text: word}
	}
	return api.Op{Kind: api.OpBinary, Text: word}
}

// formula returns the operations that words stand for.
func formula(words string) api.Formula {
	var f api.Formula
	for _, w := range strings.Fields(words) {
		f = append(f, opOf(w))
	}
	return f
}

// P8.1: the formulas of valid operations, and of lists of them that leave one value.
func TestCheck(t *testing.T) {
	most := strings.Repeat(" u-", api.MaxTokens-1)
	for _, words := range []string{
		"0", "4294967295", "a", "f/0", "?", "1 @", "1 u-", "1 u~", "1 u!", "a b +",
		"1 2 3 4 5 6 7 8 f/8", "f/0 f/1 f/1", "1 2 + 3 4 + f/2", "a a/1", "? ? -", "1 2 3 + *", "1 2 + 3 *",
		"1" + most, "f/0" + most, "1" + strings.Repeat(" 1 +", (api.MaxTokens-1)/2) + " u!",
	} {
		if e := Check(formula(words)); e != api.OK {
			t.Error(words, e)
		}
	}
	for _, row := range binaryOps {
		for _, op := range row {
			if e := Check(formula("1 2 " + op)); e != api.OK {
				t.Error(op, e)
			}
		}
	}
}

// P8.1: what is not a formula.
func TestCheckErrors(t *testing.T) {
	long := strings.Repeat("n", api.MaxName)
	for i, f := range []api.Formula{
		nil, {},
		// operations that are none
		{{}}, {{Kind: api.OpBinary + 1}}, {{Kind: -1}}, {{Kind: 0, Text: "a"}},
		{{Kind: api.OpNumber, Text: "1", N: 1}},
		{{Kind: api.OpName}}, {{Kind: api.OpName, Text: "load"}}, {{Kind: api.OpName, Text: "in"}}, {{Kind: api.OpName, Text: "let"}},
		{{Kind: api.OpName, Text: "A"}}, {{Kind: api.OpName, Text: "1"}}, {{Kind: api.OpName, Text: "+"}}, {{Kind: api.OpName, Text: "a", N: 1}},
		{{Kind: api.OpName, Text: long + "n"}}, {{Kind: api.OpCall, Text: long + "n"}},
		{{Kind: api.OpCall}}, {{Kind: api.OpCall, Text: "in"}}, {{Kind: api.OpCall, Text: "load"}}, {{Kind: api.OpCall, Text: "1"}},
		formula("1 2 3 4 5 6 7 8 9 f/9"), formula("1 2 3 4 5 6 7 8 f/9"), formula("1 2 3 4 5 6 7 8 f/4294967295"), formula("1 f/4294967295"), formula("1 f/2147483648"), formula("f/4294967295"),
		{{Kind: api.OpIn, Text: "in"}}, {{Kind: api.OpIn, N: 1}},
		append(formula("1"), api.Op{Kind: api.OpLoad, Text: "load"}), append(formula("1"), api.Op{Kind: api.OpLoad, N: 1}),
		append(formula("1"), api.Op{Kind: api.OpUnary, Text: "-", N: 1}), append(formula("1"), api.Op{Kind: api.OpUnary}),
		formula("1 u+"), formula("1 u--"), formula("1 ua"), formula("1 u&"),
		append(formula("1 2"), api.Op{Kind: api.OpBinary, Text: "+", N: 1}), append(formula("1 2"), api.Op{Kind: api.OpBinary}),
		formula("1 2 ~"), formula("1 2 !"), formula("1 2 ="), formula("1 2 ("), formula("1 2 ,"), formula("1 2 &&&"), formula("1 2 ==="),
		// values that are not there, or are left
		formula("+"), formula("1 +"), formula("1 2"), formula("1 2 + +"), formula("1 2 3 +"), formula("u-"), formula("@"), formula("f/1"), formula("1 f/2"),
		formula("1 f/0"), formula("? ?"), formula("a b"), formula("1 + 2"), formula("u- 1"), formula("1 2 3 4 5 6 7 f/8"), formula("1 2 3 4 5 6 7 8 9 f/8"), formula("f/1 1"),
		formula("1" + strings.Repeat(" 1", api.MaxTokens-1)),
	} {
		if e := Check(f); e != api.ErrArg {
			t.Error(i, e)
		}
	}
	for i, f := range []api.Formula{
		formula("1" + strings.Repeat(" u-", api.MaxTokens)),
		formula("1" + strings.Repeat(" 1 +", api.MaxTokens/2)),
		make(api.Formula, api.MaxTokens+1), make(api.Formula, 1<<20),
	} {
		if e := Check(f); e != api.ErrTooLarge {
			t.Error(i, e)
		}
	}
	if e := Check(make(api.Formula, api.MaxTokens)); e != api.ErrArg {
		t.Error(e)
	}
}

// P8.1 and P8.2: what Check does not accept is neither printed nor folded, and has no value.
func TestInvalidFormulas(t *testing.T) {
	for i, f := range []api.Formula{
		nil, formula("1 2"), formula("1 2 + +"), formula("load"), formula("1 u+"), formula("1 +"), formula("1 2 ="), formula("1 2 3 4 5 6 7 8 9 f/9"),
		{{Kind: api.OpNumber, Text: "1"}}, formula("1" + strings.Repeat(" u-", api.MaxTokens)), make(api.Formula, api.MaxTokens+1),
	} {
		want := Check(f)
		l, e := Print(f)
		g, e2 := Fold(f)
		n, is := Value(f)
		if want == api.OK || e != want || e2 != want || len(l) != 0 || len(g) != 0 || n != 0 || is {
			t.Error(i, want, e, l, e2, g, n, is)
		}
	}
}

// P8.2: formulas, what they fold to, and the same formula again if it is folded already.
func TestFold(t *testing.T) {
	for _, x := range []struct{ words, want string }{
		{"2 3 * a +", "6 a +"},
		{"a 2 3 * +", "a 6 +"},
		{"1", "1"}, {"a", "a"}, {"?", "?"}, {"f/0", "f/0"},
		{"7 u- 2 /", "4294967293"}, {"7 u- 2 %", "4294967295"},
		{"5 u-", "4294967291"}, {"5 u- u-", "5"}, {"0 u!", "1"}, {"0 u~", "4294967295"}, {"9 u! u!", "1"},
		{"1 2 + 3 + 4 +", "10"}, {"1 2 3 4 + + +", "10"}, {"1 2 + 3 4 + *", "21"},
		// operations are not put into another order
		{"2 a + 3 +", "2 a + 3 +"}, {"a 2 + 3 +", "a 2 + 3 +"}, {"2 3 a + +", "2 3 a + +"}, {"a 0 *", "a 0 *"}, {"0 a &&", "0 a &&"}, {"a a -", "a a -"}, {"1 a ||", "1 a ||"},
		{"a u-", "a u-"}, {"a u- u-", "a u- u-"}, {"1 u- a + u-", "4294967295 a + u-"},
		// within arguments and addresses
		{"1 2 + @", "3 @"}, {"1 2 + f/1", "3 f/1"}, {"1 2 + 3 u- f/2", "3 4294967293 f/2"}, {"1 @ 2 +", "1 @ 2 +"}, {"1 f/1 u-", "1 f/1 u-"}, {"1 2 f/1 +", "1 2 f/1 +"},
		{"1 2 f/2 3 4 + +", "1 2 f/2 7 +"}, {"? 1 2 + +", "? 3 +"}, {"1 2 + ? +", "3 ? +"},
		{"1 0 /", "0"}, {"1 0 %", "1"}, {"1 33 <<", "2"},
	} {
		f := formula(x.words)
		before := slices.Clone(f)
		g, e := Fold(f)
		if e != api.OK || !slices.Equal(g, formula(x.want)) || !slices.Equal(f, before) {
			t.Error(x.words, e, g)
		}
		if h, e := Fold(g); e != api.OK || !slices.Equal(h, g) {
			t.Error(x.words, e, h)
		}
	}
}

// P8.2: what is folded shares no memory with the formula.
func TestFoldIsNew(t *testing.T) {
	f := formula("a b +")
	g, _ := Fold(f)
	f[0] = opOf("c")
	if !slices.Equal(g, formula("a b +")) {
		t.Error(g)
	}
}

// P8.2: values of constants, and formulas that are none.
func TestValue(t *testing.T) {
	for _, x := range []struct {
		words string
		n     uint32
		is    bool
	}{
		{"0", 0, true}, {"4294967295", 4294967295, true}, {"2 3 *", 6, true}, {"1 u-", 4294967295, true}, {"1 2 3 + u- *", 4294967291, true},
		{"1" + strings.Repeat(" 1 +", (api.MaxTokens-1)/2), api.MaxTokens / 2, true},
		{"a", 0, false}, {"a 0 *", 0, false}, {"0 a *", 0, false}, {"?", 0, false}, {"f/0", 0, false}, {"1 @", 0, false}, {"1 2 f/2", 0, false}, {"0 ? &&", 0, false}, {"a a ==", 0, false},
	} {
		if n, is := Value(formula(x.words)); n != x.n || is != x.is {
			t.Error(x.words, n, is)
		}
	}
}
