package compile

import (
	"strconv"
	"strings"
	"testing"

	"licit/api"
	"licit/source"
)

// P9.1: what is not there to be compiled.
func TestNotFound(t *testing.T) {
	tree := fileOf("fn t x", "do x")
	u := scanned(t, tree)
	for _, name := range []string{"", "u", "e", "two", "x", "T", "tt", "a/m"} {
		s, l, f := Section(tree, u, name)
		if f != (api.Fault{Error: api.ErrNotFound, Package: -1, Step: -1, At: api.Line{N: -1}}) || !isZero(s, l) {
			t.Error(name, f, s, l)
		}
	}
	if _, _, f := Section(nil, api.Unit{}, ""); f.Error != api.ErrNotFound {
		t.Error(f)
	}
	// of a unit that no file has, too
	item, _ := source.Find(u, "t")
	for _, item.Kind = range []int{0, api.ItemExtern, 4, -1} {
		if _, _, f := Section(tree, api.Unit{Items: []api.Item{item}}, "t"); f != (api.Fault{Error: api.ErrNotFound, Package: -1, Step: -1, At: api.Line{N: -1}}) {
			t.Error(item.Kind, f)
		}
	}
}

// P1: units that were not read from the tree have a fault if it does not have the lines of a body.
func TestOtherTrees(t *testing.T) {
	tree := api.Tree{{Path: "a/m", Data: "return 1\nreturn 2"}, {Path: "a/long", Data: strings.Repeat("x", api.MaxData+1)}, {Path: "a/lines", Data: strings.Repeat("\n", api.MaxLines)}}
	for _, x := range []struct {
		path     string
		from, to int
		e        api.Errno
	}{
		{"a/x", 0, 1, api.ErrNotFound}, {"", 0, 0, api.ErrNotFound}, {"a/long", 0, 1, api.ErrTooLarge}, {"a/lines", 0, 0, api.ErrTooLarge}, {"a/long", -1, 0, api.ErrTooLarge},
		{"a/m", -1, 1, api.ErrRange}, {"a/m", 1, 0, api.ErrRange}, {"a/m", 0, 3, api.ErrRange}, {"a/m", 3, 3, api.ErrRange}, {"a/m", -1 << 63, 1<<63 - 1, api.ErrRange},
		{"a/m", 0, 0, api.OK}, {"a/m", 0, 2, api.OK}, {"a/m", 2, 2, api.OK}, {"a/m", 1, 2, api.OK},
	} {
		u := api.Unit{Items: []api.Item{{Name: "t", Kind: api.ItemFn, Body: api.Span{Path: x.path, From: x.from, To: x.to}}}}
		s, l, f := Section(tree, u, "t")
		want := api.Fault{}
		if x.e != api.OK {
			want = api.Fault{Error: x.e, Package: -1, Step: -1, At: api.Line{Path: x.path, N: -1}}
		}
		if f != want || x.e != api.OK && !isZero(s, l) || x.e == api.OK && len(s.Data) != 8+6*(x.to-x.from) {
			t.Error(x, f, s, l)
		}
	}
}

// fails checks that a body of the item t has a fault at one of its lines.
func fails(t *testing.T, head, text string, e api.Errno, n int) {
	t.Helper()
	s, l, f := section(t, head, text)
	if f != at(e, n) || !isZero(s, l) {
		t.Error(head, text, f, n, s, l)
	}
}

// deep returns n blocks, each of which is the last line of the one before, with lines in the last one.
func deep(n int, first, text string) string {
	var lines []string
	for i := range n {
		lines = append(lines, first+" "+strconv.Itoa(n-1-i+count(text)))
	}
	return join(strings.Join(lines, ";"), text)
}

// P9.1: the error of a line of a function, and which line it is.
func TestErrors(t *testing.T) {
	for _, x := range []struct {
		text string
		e    api.Errno
		n    int
	}{
		// the errors of Tokens, and those of Line
		{"?", api.ErrSyntax, 0}, {";do 01", api.ErrSyntax, 1}, {"do 4294967296", api.ErrRange, 0}, {"do " + strings.Repeat("n", api.MaxName+1), api.ErrName, 0}, {strings.Repeat("x ", api.MaxTokens+1), api.ErrTooLarge, 0}, {"?;do 4294967296", api.ErrSyntax, 0},
		{"do sum(1)", api.ErrMismatch, 0}, {"do sum", api.ErrSyntax, 0}, {"do 1;" + strings.Repeat("lines ", 100), api.ErrTooLarge, 1}, {"what sum(1)", api.ErrMismatch, 0},
		// tokens that are in no row
		{"x", api.ErrSyntax, 0}, {"1", api.ErrSyntax, 0}, {"+", api.ErrSyntax, 0}, {"x = 1", api.ErrSyntax, 0}, {"f(1,2)", api.ErrSyntax, 0}, {"in()", api.ErrSyntax, 0}, {"load(1)", api.ErrSyntax, 0}, {"fn a 0", api.ErrSyntax, 0}, {"two", api.ErrSyntax, 0}, {"note 0", api.ErrSyntax, 0},
		{"let", api.ErrSyntax, 0}, {"let y", api.ErrSyntax, 0}, {"let y 1", api.ErrSyntax, 0}, {"let y == 1", api.ErrSyntax, 0}, {"let = 1", api.ErrSyntax, 0}, {"let y y = 1", api.ErrSyntax, 0}, {"let 1 = 1", api.ErrSyntax, 0}, {"let let = 1", api.ErrSyntax, 0}, {"let in = 1", api.ErrSyntax, 0}, {"let two = 1", api.ErrSyntax, 0}, {"let ( = 1", api.ErrSyntax, 0},
		{"set", api.ErrSyntax, 0}, {"set x", api.ErrSyntax, 0}, {"set x 1", api.ErrSyntax, 0}, {"set = 1", api.ErrSyntax, 0}, {"set x + 1 = 1", api.ErrSyntax, 0}, {"set out = 1", api.ErrSyntax, 0}, {"set 1 = x", api.ErrSyntax, 0},
		{"store", api.ErrSyntax, 0}, {"store x", api.ErrSyntax, 0}, {"store x == 1", api.ErrSyntax, 0}, {"store x, 1", api.ErrSyntax, 0},
		{"if", api.ErrSyntax, 0}, {"if x", api.ErrSyntax, 0}, {"if 1 x", api.ErrSyntax, 0}, {"if x (0)", api.ErrSyntax, 0}, {"while", api.ErrSyntax, 0}, {"while x", api.ErrSyntax, 0}, {"while 1 +", api.ErrSyntax, 0},
		// tokens that are no expression
		{"let y =", api.ErrSyntax, 0}, {"let y = = 1", api.ErrSyntax, 0}, {"set x =", api.ErrSyntax, 0}, {"set x = x = 1", api.ErrSyntax, 0}, {"return", api.ErrSyntax, 0}, {"return 1 2", api.ErrSyntax, 0}, {"do", api.ErrSyntax, 0}, {"do )", api.ErrSyntax, 0}, {"out", api.ErrSyntax, 0}, {"out let", api.ErrSyntax, 0},
		{"store = 1", api.ErrSyntax, 0}, {"store 1 =", api.ErrSyntax, 0}, {"store =", api.ErrSyntax, 0}, {"store 1 = 2 = 3", api.ErrSyntax, 0}, {"store (1 = 2)", api.ErrSyntax, 0}, {"if 0", api.ErrSyntax, 0}, {"while 0", api.ErrSyntax, 0}, {"if 1 2 0", api.ErrSyntax, 0}, {"while x + 0", api.ErrSyntax, 0},
		{"do " + strings.Repeat("(", 26) + "1" + strings.Repeat(")", 26), api.ErrDeep, 0}, {"do e(1,2,3,4,5,6,7,8,9)", api.ErrTooLarge, 0}, {"let y = -" + strings.Repeat("-", 25) + "1", api.ErrDeep, 0}, {"if load" + strings.Repeat("(", 26) + " 0", api.ErrDeep, 0},
		// an else that is not directly behind the lines of an if of its own block
		{"else 0", api.ErrSyntax, 0}, {"do 1;else 0", api.ErrSyntax, 1}, {"if x 0;;else 0", api.ErrSyntax, 2}, {"if x 0;none;else 0", api.ErrSyntax, 2}, {"if x 0;else 0;else 0", api.ErrSyntax, 2}, {"if 0 0;else 0;else 0", api.ErrSyntax, 2}, {"if 1 0;else 0;else 0", api.ErrSyntax, 2},
		{"while x 0;else 0", api.ErrSyntax, 1}, {"while 0 0;else 0", api.ErrSyntax, 1}, {"if x 1;else 0", api.ErrSyntax, 1}, {"while x 1;if x 0;else 0", api.ErrSyntax, 2}, {"if x 2;if x 0;;else 1;else 0", api.ErrSyntax, 4}, {"if x 0;do 1;else 0", api.ErrSyntax, 2}, {"if x 0;else 1;if x 0;else 0", api.ErrSyntax, 3}, {"if x 0;else 2;if x 0;else 0;else 0", api.ErrSyntax, 4}, {"if x 1;if x 0;do 1;else 0", api.ErrSyntax, 3},
		{"if x 0;else", api.ErrSyntax, 1}, {"if x 0;else x", api.ErrSyntax, 1}, {"if x 0;else x 0", api.ErrSyntax, 1}, {"if x 0;else 0 0", api.ErrSyntax, 1}, {"if x 0;else (0)", api.ErrSyntax, 1}, {"if 1 0;else if", api.ErrSyntax, 1},
		{"else 9", api.ErrSyntax, 0}, {"if x 0;else 9 9", api.ErrSyntax, 1},
		// blocks that are longer than what they stand in
		{"if x 1", api.ErrShort, 0}, {"if x 2;", api.ErrShort, 0}, {"while x 4294967295;", api.ErrShort, 0}, {"if x 0;else 1", api.ErrShort, 1}, {"if x 1;if x 1;", api.ErrShort, 1}, {"while 1 2;;while 0 1;;", api.ErrShort, 2}, {"if 0 0;else 2;", api.ErrShort, 1}, {"if 1 0;else 2;", api.ErrShort, 1}, {"if x 2;if x 0;else 1;;;", api.ErrShort, 2}, {"if 0 1", api.ErrShort, 0},
		// names
		{"do y", api.ErrName, 0}, {"do y(1)", api.ErrName, 0}, {"set y = 1", api.ErrName, 0}, {"set f = 1", api.ErrName, 0}, {"set t = 1", api.ErrName, 0}, {"let y = y", api.ErrName, 0}, {"do x + y", api.ErrName, 0}, {"if y 0", api.ErrName, 0}, {"while y 0", api.ErrName, 0}, {"store x = y", api.ErrName, 0},
		{"if x 1;let y = 1;do y", api.ErrName, 2}, {"if 1 1;let y = 1;set y = 1", api.ErrName, 2}, {"if x 1;let y = 1;else 1;do y", api.ErrName, 3}, {"while x 1;let y = 1;out y", api.ErrName, 2}, {"if 0 1;let y = 1;set y = 1", api.ErrName, 2}, {"if 0 0;else 1;let y = 1;do y", api.ErrName, 3},
		{"let y = 1;let y = 1", api.ErrTwice, 1}, {"let x = 1", api.ErrTwice, 0}, {"let y = 1;if x 1;let y = 1", api.ErrTwice, 2}, {"if 1 2;if 1 1;let x = 1", api.ErrTwice, 2},
		// calls of functions of the unit
		{"do f(1)", api.ErrMismatch, 0}, {"do f(1,2,3)", api.ErrMismatch, 0}, {"do g(1)", api.ErrMismatch, 0}, {"do f()", api.ErrMismatch, 0}, {"do t()", api.ErrMismatch, 0}, {"if f(1) 0", api.ErrMismatch, 0}, {"if x 1;let f = 1;do f(1)", api.ErrMismatch, 2}, {"let f = f(1)", api.ErrMismatch, 0},
		// of the errors of a line the first one
		{"if y 1", api.ErrShort, 0}, {"if 1", api.ErrShort, 0}, {"while ) 1", api.ErrShort, 0}, {"if f(1) 1", api.ErrShort, 0}, {"while ) 0", api.ErrSyntax, 0},
		{"do y +", api.ErrSyntax, 0}, {"let x = y", api.ErrName, 0}, {"let x = f(1)", api.ErrMismatch, 0}, {"set y = f(1)", api.ErrMismatch, 0}, {"set y = )", api.ErrSyntax, 0}, {"let x = 1 2", api.ErrSyntax, 0},
		{"do f(y)", api.ErrName, 0}, {"do f(1) + y", api.ErrMismatch, 0}, {"do y + f(1)", api.ErrName, 0}, {"do y(f(1))", api.ErrMismatch, 0},
		{"store y = )", api.ErrName, 0}, {"store ) = y", api.ErrSyntax, 0}, {"store f(1) = y", api.ErrMismatch, 0}, {"store 1 = )", api.ErrSyntax, 0},
		// of the lines the first one that is read
		{"do y;?", api.ErrName, 0}, {"if 0 1;?;do y", api.ErrName, 2}, {"if x 1;do f();do y", api.ErrMismatch, 1}, {"while 0 1;?;if 1 1", api.ErrShort, 2}, {"if 1 0;else 1;?;let x = 1", api.ErrTwice, 3}, {"return 1;?", api.ErrSyntax, 1},
	} {
		fails(t, "fn t x", x.text, x.e, x.n)
	}
}

// lets returns n lines that make variables.
func lets(n int) string {
	var lines []string
	for i := range n {
		lines = append(lines, "let v"+strconv.Itoa(i)+" = 1")
	}
	return strings.Join(lines, ";")
}

// works checks that a body of the item t can be compiled.
func works(t *testing.T, head, text string) api.Section {
	t.Helper()
	s, _, f := section(t, head, text)
	if f != (api.Fault{}) {
		t.Error(head, text, f)
	}
	return s
}

// P9.1: MaxLocals variables, with those whose block has ended.
func TestManyVariables(t *testing.T) {
	most := api.MaxLocals
	if s := works(t, "fn t", lets(most)); len(s.Data) < 2 || s.Data[0] != 0 || int(s.Data[1]) != most || !strings.HasSuffix(listing(s), "set 63") {
		t.Error(s)
	}
	if s := works(t, "fn t x y", lets(most-2)+";set x = v61"); len(s.Data) < 2 || s.Data[0] != 2 || int(s.Data[1]) != most || !strings.HasSuffix(listing(s), "get 63; set 0") {
		t.Error(s)
	}
	works(t, "fn t a b c d g h i j", lets(most-8))
	works(t, "fn t", "if 0 1;"+"let y = 1;"+lets(most))
	fails(t, "fn t", lets(most+1), api.ErrTooLarge, most)
	fails(t, "fn t x", lets(most), api.ErrTooLarge, most-1)
	fails(t, "fn t a b c d g h i j", lets(most-7), api.ErrTooLarge, most-8)
	fails(t, "fn t", "if 1 1;let y = 1;"+lets(most), api.ErrTooLarge, most+1)
	// behind the errors of E, and that of a visible name
	fails(t, "fn t", lets(most)+";let y = z", api.ErrName, most)
	fails(t, "fn t", lets(most)+";let y = f()", api.ErrMismatch, most)
	fails(t, "fn t", lets(most)+";let v0 = 1", api.ErrTwice, most)
	fails(t, "fn t", lets(most)+";let y", api.ErrSyntax, most)
	fails(t, "fn t x", "if x 1;let y = 1;"+lets(most-2)+";let y = 1", api.ErrTooLarge, most)
}

// P9.1: blocks can be MaxDepth deep.
func TestDepth(t *testing.T) {
	most := api.MaxDepth
	for _, first := range []string{"if x", "if 1", "while x", "while 1", "if in()"} {
		works(t, "fn t x", deep(most, first, "do x"))
		works(t, "fn t x", deep(most, first, ""))
		fails(t, "fn t x", deep(most+1, first, ""), api.ErrDeep, most)
		fails(t, "fn t x", deep(most+1, first, "?"), api.ErrDeep, most)
		// what is left out is no deeper
		works(t, "fn t x", deep(most, first, "if 0 1;?;while 0 1;?"))
		fails(t, "fn t x", deep(most, first, "if 0 1;?;while 1 0"), api.ErrDeep, most+2)
		// the errors of the line before, also too much code, come first
		fails(t, "fn t x", deep(most, first, "if x 1"), api.ErrShort, most)
		fails(t, "fn t x", deep(most, first, "if y 0"), api.ErrName, most)
		fails(t, "fn t x", deep(most, first, "while ) 0"), api.ErrSyntax, most)
		// an else is as deep as its if
		fails(t, "fn t x", deep(most, first, "if x 0;else 0"), api.ErrDeep, most)
		fails(t, "fn t x", deep(most, first, "if 1 0;else 0"), api.ErrDeep, most)
		fails(t, "fn t x", deep(most, first, "if 0 1;?;else 0"), api.ErrDeep, most+2)
		fails(t, "fn t x", deep(most, first, "if 0 0;else 1;?"), api.ErrDeep, most+1)
		fails(t, "fn t x", deep(most, first, "if 0 0;else 1"), api.ErrShort, most+1)
		works(t, "fn t x", deep(most-1, first, "if 0 0;else 1;do 1"))
		works(t, "fn t x", deep(most-1, first, "if x 0;else 2;if 0 1;?"))
		fails(t, "fn t x", deep(most-1, first, "if x 0;else 1;if x 0"), api.ErrDeep, most+1)
		fails(t, "fn t x", deep(most-1, first, "if 0 0;else 1;while x 0"), api.ErrDeep, most+1)
		// blocks that have ended do not make the next one deeper
		works(t, "fn t x", join(deep(most, first, "do x"), deep(most, first, "do x")))
		works(t, "fn t x", deep(most-1, first, "if x 0;else 0;if 0 0;else 0;while x 0;if 1 0"))
	}
}

// room is how many bytes the code of the lines of a function can have.
const room = api.MaxCode - 6 - 2

// P9.1: the code of a function can end at the byte MaxCode - 6, and at no byte behind it.
func TestMaxCode(t *testing.T) {
	for _, x := range []struct {
		text    string
		size, n int // of the code, and the line to which the last instruction belongs
	}{
		{"do x", 3, 0}, {"do 1", 6, 0}, {"do f", 6, 0}, {"do load(x)", 4, 0}, {"out in()", 2, 0}, {"do -x", 5, 0}, {"do x-x", 7, 0}, {"do g()", 8, 0}, {"do x()", 5, 0},
		{"let y = x", 4, 0}, {"set x = x", 4, 0}, {"return x", 3, 0}, {"out x", 3, 0}, {"store x = x", 5, 0}, {"do x;", 3, 0}, {"do x;if 1 1;;while 0 1;?", 3, 0},
		{"if x 0", 7, 0}, {"if x 1;do x", 10, 1}, {"if x 0;else 0", 12, 1}, {"if x 1;do x;else 0", 15, 2}, {"if x 0;else 1;do x", 15, 2}, {"if x 1;;do 1", 13, 2},
		{"while x 0", 12, 0}, {"while x 1;do x", 15, 0}, {"while 1 0", 5, 0}, {"while 1 1;do x", 8, 0}, {"while x 2;while 1 1;do x", 20, 0}, {"while 1 2;;do x", 8, 0},
	} {
		if s := works(t, "fn t x", join(filler(room-x.size), x.text)); len(s.Data) != api.MaxCode {
			t.Error(x.text, len(s.Data))
		}
		front := filler(room - x.size + 1)
		fails(t, "fn t x", join(front, x.text), api.ErrTooLarge, count(front)+x.n)
	}
}

// P9.1: where there is no room for an instruction, and what comes before that.
func TestNoRoom(t *testing.T) {
	for _, x := range []struct {
		left int // how many bytes there are in front of the end
		text string
		e    api.Errno
		n    int
	}{
		{0, "do x", api.ErrTooLarge, 0}, {0, "do 1", api.ErrTooLarge, 0}, {0, "out in()", api.ErrTooLarge, 0}, {0, "do f", api.ErrTooLarge, 0}, {0, "store x = )", api.ErrTooLarge, 0}, {0, "do x + y", api.ErrTooLarge, 0}, {0, "do x;?", api.ErrTooLarge, 0}, {0, "if x 0", api.ErrTooLarge, 0}, {0, "while x 0", api.ErrTooLarge, 0}, {0, "while 1 0", api.ErrTooLarge, 0},
		// behind the errors of tokens, of an expression, and of the operation itself
		{0, "do x +", api.ErrSyntax, 0}, {0, "if x 1", api.ErrShort, 0}, {0, "do y", api.ErrName, 0}, {0, "do y()", api.ErrName, 0}, {0, "do t()", api.ErrMismatch, 0}, {0, "do g(1)", api.ErrTooLarge, 0},
		// the instructions of E come before the other errors of let and set, InsSet behind them
		{0, "let x = 1", api.ErrTooLarge, 0}, {0, "set y = 1", api.ErrTooLarge, 0}, {4, "let x = 1", api.ErrTooLarge, 0}, {2, "let x = x", api.ErrTwice, 0}, {2, "set y = x", api.ErrName, 0}, {2, "let y = x", api.ErrTooLarge, 0}, {3, "set x = x", api.ErrTooLarge, 0},
		// the call behind its address, and what is behind the first expression of a store
		{7, "do g()", api.ErrTooLarge, 0}, {6, "do g()", api.ErrTooLarge, 0}, {5, "do g()", api.ErrTooLarge, 0}, {2, "store x = )", api.ErrSyntax, 0}, {2, "store x = y", api.ErrName, 0}, {4, "store x = x", api.ErrTooLarge, 0},
		// constants have no code
		{0, "if 1 1;?", api.ErrSyntax, 1}, {0, "if 0 1;?;do y", api.ErrName, 2}, {0, "while 0 1;?;do y", api.ErrName, 2}, {0, "if 0 1;?;else 1;?", api.ErrSyntax, 3}, {0, "if 1 0;else 1;?;?", api.ErrSyntax, 3},
		// InsZero belongs to the if or while, InsJump to the else, and to the while, behind all lines of its block
		{6, "if x 1;?", api.ErrTooLarge, 0}, {7, "if x 1;?", api.ErrSyntax, 1}, {6, "while x 1;?", api.ErrTooLarge, 0}, {7, "while x 1;?", api.ErrSyntax, 1},
		{11, "if x 0;else 1;?", api.ErrTooLarge, 1}, {12, "if x 0;else 1;?", api.ErrSyntax, 2}, {11, "if x 0;else 1", api.ErrShort, 1}, {17, "if x 1;do x;else 1;do x", api.ErrTooLarge, 3}, {11, "if x 1;do x;else 1;do x", api.ErrTooLarge, 2},
		{14, "while x 1;do x", api.ErrTooLarge, 0}, {10, "while x 1;do x;?", api.ErrTooLarge, 0}, {9, "while x 1;do x", api.ErrTooLarge, 1}, {9, "while x 1;do y", api.ErrName, 1}, {7, "while 1 1;do x", api.ErrTooLarge, 0}, {2, "while 1 1;do x", api.ErrTooLarge, 1},
		{20, "while 1 2;while 1 1;do x-x-x", api.ErrTooLarge, 0}, {16, "while 1 2;while 1 1;do x-x-x", api.ErrTooLarge, 0}, {15, "while 1 2;while 1 1;do x-x-x", api.ErrTooLarge, 1}, {10, "while 1 2;while 1 1;do x-x-x", api.ErrTooLarge, 2},
	} {
		front := filler(room - x.left)
		fails(t, "fn t x", join(front, x.text), x.e, count(front)+x.n)
	}
	// E and InsZero come before the depth
	for _, x := range []struct {
		left int
		line string
		e    api.Errno
	}{{6, "if x 0", api.ErrTooLarge}, {6, "while x 0", api.ErrTooLarge}, {7, "if x 0", api.ErrDeep}, {7, "while x 0", api.ErrDeep}, {0, "if 1 0", api.ErrDeep}, {0, "while 1 0", api.ErrDeep}} {
		text := deep(api.MaxDepth, "if 1", join(filler(room-x.left), x.line))
		fails(t, "fn t x", text, x.e, count(text)-1)
	}
	works(t, "fn t x", deep(api.MaxDepth, "if 1", filler(room)+";if 0 0;while 0 0"))
}

// P9.1: the error of a line of data.
func TestDataErrors(t *testing.T) {
	for _, x := range []struct {
		text string
		e    api.Errno
		n    int
	}{
		{"?", api.ErrSyntax, 0}, {"1;4294967296", api.ErrRange, 1}, {"sum(1)", api.ErrMismatch, 0}, {"1, " + strings.Repeat("n", api.MaxName+1), api.ErrName, 0}, {strings.Repeat("lines + ", 80), api.ErrTooLarge, 0},
		// parts without tokens
		{",", api.ErrSyntax, 0}, {"1,", api.ErrSyntax, 0}, {",1", api.ErrSyntax, 0}, {"1,,2", api.ErrSyntax, 0}, {"none, 1", api.ErrSyntax, 0}, {"1;2;,", api.ErrSyntax, 2},
		// names of no item
		{"x", api.ErrName, 0}, {"1, x", api.ErrName, 0}, {"f;x", api.ErrName, 1}, {"tt", api.ErrName, 0},
		// what is no constant, and what is no expression
		{"load", api.ErrSyntax, 0}, {"in", api.ErrSyntax, 0}, {"let", api.ErrSyntax, 0}, {"=", api.ErrSyntax, 0}, {"1 = 2", api.ErrSyntax, 0}, {"(f)", api.ErrSyntax, 0}, {"f + 0", api.ErrSyntax, 0}, {"f()", api.ErrSyntax, 0}, {"in()", api.ErrSyntax, 0}, {"load(1)", api.ErrSyntax, 0}, {"-f", api.ErrSyntax, 0}, {"1 2", api.ErrSyntax, 0}, {"return 1", api.ErrSyntax, 0}, {"ret", api.ErrSyntax, 0}, {"0 * in()", api.ErrSyntax, 0},
		{strings.Repeat("(", 26) + "1" + strings.Repeat(")", 26), api.ErrDeep, 0}, {"e(1,2,3,4,5,6,7,8,9)", api.ErrTooLarge, 0},
		// commas in parentheses divide nothing
		{"f(1, 2)", api.ErrSyntax, 0}, {"(1, 2)", api.ErrSyntax, 0}, {"(1, x), y", api.ErrSyntax, 0}, {"(1, 2", api.ErrSyntax, 0}, {"1), x", api.ErrSyntax, 0}, {"e(1,2,3,4,5,6,7,8,(9", api.ErrTooLarge, 0},
		// the first part, and the first line
		{"x, 1 2", api.ErrName, 0}, {"1 2, x", api.ErrSyntax, 0}, {"x;?", api.ErrName, 0}, {"f(x), x", api.ErrSyntax, 0}, {"1, x, ?", api.ErrSyntax, 0},
	} {
		fails(t, "data t", x.text, x.e, x.n)
	}
}

// P9.1: data can have MaxCode bytes, and not a word more.
func TestMuchData(t *testing.T) {
	line := "1" + strings.Repeat(",1", 127)
	full := strings.Repeat(line+";", 15) + line
	if s := works(t, "data t", full); s.Data != strings.Repeat("\x01\x00\x00\x00", api.MaxCode/4) {
		t.Error(len(s.Data))
	}
	works(t, "data t", full+";;none;")
	works(t, "data t", strings.ReplaceAll(full, "1", "t"))
	fails(t, "data t", full+";1", api.ErrTooLarge, 16)
	fails(t, "data t", full+";;f;?", api.ErrTooLarge, 17)
	fails(t, "data t", strings.ReplaceAll(full+";1", "1", "d"), api.ErrTooLarge, 16)
	fails(t, "data t", full+";,", api.ErrSyntax, 16)
	fails(t, "data t", full+";x", api.ErrName, 16)
	fails(t, "data t", full+";1 2", api.ErrSyntax, 16)
	fails(t, "data t", full+";f()", api.ErrSyntax, 16)
	fails(t, "data t", full+";1,x", api.ErrTooLarge, 16)
	short := strings.TrimSuffix(full, ",1")
	works(t, "data t", short+";1")
	fails(t, "data t", short+";1,1", api.ErrTooLarge, 16)
	fails(t, "data t", short+";1,x", api.ErrName, 16)
}
