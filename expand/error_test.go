package expand

import (
	"slices"
	"strings"
	"testing"

	"licit/api"
)

// macro returns a macro with a body.
func macro(path string, from, to int) api.Macro {
	return api.Macro{Name: "m", Body: api.Span{Path: path, From: from, To: to}}
}

// P7.1: bodies of macros.
func TestBody(t *testing.T) {
	tree := api.Tree{
		{Path: "a/m", Data: "x + 1\n\n  y,z\n?\n(("},
		{Path: "a/full", Data: strings.Repeat("x ", 200) + "\n" + strings.Repeat("y ", 56) + "\nz"},
		{Path: "a/m", Data: "other"},
	}
	for _, x := range []struct {
		path     string
		from, to int
		want     string
	}{
		{"a/m", 0, 1, "x + 1"}, {"a/m", 0, 3, "x + 1 y , z"}, {"a/m", 2, 3, "y , z"}, {"a/m", 4, 5, "( ("}, {"a/m", 1, 2, ""},
		{"a/m", 0, 0, ""}, {"a/m", 3, 3, ""}, {"a/m", 5, 5, ""},
		{"a/full", 0, 2, strings.Repeat("x ", 200) + strings.Repeat("y ", 56)}, {"a/full", 1, 3, strings.Repeat("y ", 56) + "z"},
	} {
		l, e := Body(tree, macro(x.path, x.from, x.to))
		if e != api.OK || !slices.Equal(l, tokens(x.want)) {
			t.Error(x.path, x.from, x.to, e, l)
		}
	}
	// the name and the parameters do not matter
	if l, e := Body(tree, api.Macro{Name: "?", Params: []string{"x", "x", ""}, Body: api.Span{Path: "a/m", To: 1}}); e != api.OK || !slices.Equal(l, tokens("x + 1")) {
		t.Error(e, l)
	}
}

// P7.1: the first error of a body.
func TestBodyErrors(t *testing.T) {
	tree := api.Tree{
		{Path: "a/m", Data: "x\n01\n4294967296\nA\n" + strings.Repeat("n", api.MaxName+1)},
		{Path: "a/long", Data: strings.Repeat("x", api.MaxData+1)},
		{Path: "a/lines", Data: strings.Repeat("\n", api.MaxLines)},
		{Path: "a/full", Data: strings.Repeat("x ", 200) + "\n" + strings.Repeat("y ", 57) + "\nA\n" + strings.Repeat("z ", api.MaxTokens+1)},
		{Path: "?", Data: "x"},
	}
	for _, x := range []struct {
		path     string
		from, to int
		e        api.Errno
	}{
		{"a/x", 0, 1, api.ErrNotFound}, {"", 0, 0, api.ErrNotFound}, {"a/x", -1, -2, api.ErrNotFound}, {"a", 0, 0, api.ErrNotFound},
		{"a/long", 0, 0, api.ErrTooLarge}, {"a/lines", 0, 0, api.ErrTooLarge}, {"a/lines", -1, 0, api.ErrTooLarge}, {"a/long", 2, 1, api.ErrTooLarge},
		{"a/m", -1, 0, api.ErrRange}, {"a/m", -1, -1, api.ErrRange}, {"a/m", 1, 0, api.ErrRange}, {"a/m", 0, 6, api.ErrRange}, {"a/m", 6, 6, api.ErrRange}, {"a/m", 1 << 62, 1 << 62, api.ErrRange}, {"a/m", -1 << 63, 1<<63 - 1, api.ErrRange}, {"a/m", 5, -1, api.ErrRange}, {"a/m", 1, 9, api.ErrRange}, {"a/m", 0, -1 << 63, api.ErrRange},
		{"a/m", 0, 5, api.ErrSyntax}, {"a/m", 1, 3, api.ErrSyntax}, {"a/m", 2, 5, api.ErrRange}, {"a/m", 3, 5, api.ErrSyntax}, {"a/m", 4, 5, api.ErrName},
		// the errors of all lines come before too many tokens in all
		{"a/full", 0, 2, api.ErrTooLarge}, {"a/full", 0, 3, api.ErrSyntax}, {"a/full", 0, 4, api.ErrSyntax}, {"a/full", 3, 4, api.ErrTooLarge},
		{"?", 0, 1, api.OK},
	} {
		if l, e := Body(tree, macro(x.path, x.from, x.to)); e != x.e || e != api.OK && len(l) != 0 {
			t.Error(x.path, x.from, x.to, e, l)
		}
	}
	if _, e := Body(nil, api.Macro{}); e != api.ErrNotFound {
		t.Error(e)
	}
}

// P7.2: arguments that are not there, and what is left out or is too much in them.
func TestArguments(t *testing.T) {
	for _, x := range []struct {
		line string
		e    api.Errno
	}{
		{"sum ( 1 )", api.ErrMismatch}, {"sum ( , 1 )", api.ErrSyntax}, {"sum + 1", api.ErrSyntax},
		{"sum", api.ErrSyntax}, {"1 + sum", api.ErrSyntax}, {"sum sum", api.ErrSyntax}, {"sum )", api.ErrSyntax}, {"sum , ( 1 , 2 )", api.ErrSyntax}, {"( sum )", api.ErrSyntax}, {"sum two ( 1 , 2 )", api.ErrSyntax}, {"sum none ( 1 , 2 )", api.ErrSyntax},
		{"sum (", api.ErrSyntax}, {"sum ( 1 , 2", api.ErrSyntax}, {"sum ( 1 , ( 2 )", api.ErrSyntax}, {"sum ( ( 1 , 2 )", api.ErrSyntax}, {"sum ( 1", api.ErrSyntax}, {"sum ( 1 ,", api.ErrSyntax}, {"sum ( 1 , 2 , 3", api.ErrSyntax},
		{"sum ( )", api.ErrSyntax}, {"sum ( 1 , )", api.ErrSyntax}, {"sum ( , )", api.ErrSyntax}, {"sum ( 1 , 2 , )", api.ErrSyntax}, {"sum ( 1 , , 2 )", api.ErrSyntax}, {"id ( )", api.ErrSyntax}, {"id ( , )", api.ErrSyntax},
		{"sum ( 1 , 2 , 3 )", api.ErrMismatch}, {"id ( 1 , 2 )", api.ErrMismatch}, {"sum ( ( 1 , 2 ) )", api.ErrMismatch}, {"sum ( 1 + 2 )", api.ErrMismatch}, {"sum ( ( ) )", api.ErrMismatch},
		// also those of an argument, which are only expanded where the body has them
		{"sum ( 1 , id ( ) )", api.ErrSyntax}, {"sum ( id , 1 )", api.ErrSyntax}, {"id ( sum ( 1 ) )", api.ErrMismatch}, {"id ( none ) sum", api.ErrSyntax},
		{"drop ( sum )", api.OK}, {"drop ( id ( ) )", api.OK}, {"drop ( id ( ), 1 )", api.ErrMismatch},
		// the first expansion with an error decides
		{"sum ( 1 ) sum", api.ErrMismatch}, {"sum sum ( 1 )", api.ErrSyntax}, {"sum ( id ( 1 , 2 ) , id )", api.ErrMismatch}, {"sum ( id , id ( 1 , 2 ) )", api.ErrSyntax}, {"two sum ( 1 )", api.ErrMismatch},
	} {
		tree, u := unit(append([]string{"drop x"}, example...)...)
		l, read, e := Line(tree, u, tokens(x.line))
		if e != x.e || len(l) != 0 || e != api.OK && len(read) != 0 {
			t.Error(x.line, e, l, read)
		}
	}
}

// P7.2: the error of Body, behind those of the arguments.
func TestLineBodyErrors(t *testing.T) {
	tree := api.Tree{{Path: "a/m", Data: "1\n01\nA"}, {Path: "a/long", Data: strings.Repeat("x", api.MaxData+1)}, {Path: "a/full", Data: strings.Repeat("x ", 200) + "\n" + strings.Repeat("y ", 57)}}
	u := api.Unit{Macros: []api.Macro{
		{Name: "gone", Params: []string{"x"}, Body: api.Span{Path: "a/x"}},
		{Name: "long", Body: api.Span{Path: "a/long"}},
		{Name: "range", Body: api.Span{Path: "a/m", To: 4}},
		{Name: "zero", Body: api.Span{Path: "a/m", To: 2}},
		{Name: "full", Body: api.Span{Path: "a/full", To: 2}},
		{Name: "good", Body: api.Span{Path: "a/m", To: 1}},
	}}
	for _, x := range []struct {
		line string
		e    api.Errno
	}{
		{"gone ( 1 )", api.ErrNotFound}, {"gone", api.ErrSyntax}, {"gone ( 1 , 2 )", api.ErrMismatch}, {"gone ( )", api.ErrSyntax},
		{"long", api.ErrTooLarge}, {"range", api.ErrRange}, {"zero", api.ErrSyntax}, {"full", api.ErrTooLarge},
		{"good range zero", api.ErrRange}, {"good gone ( range )", api.ErrNotFound}, {"zero gone", api.ErrSyntax}, {"good", api.OK}, {"x", api.OK},
	} {
		if l, read, e := Line(tree, u, tokens(x.line)); e != x.e || e != api.OK && len(l)+len(read) != 0 {
			t.Error(x.line, e, l, read)
		}
	}
}

// P7.2: tokens that are too many, or not valid, before all else.
func TestLineTokens(t *testing.T) {
	tree, u := unit(example...)
	full := slices.Repeat(tokens("x"), api.MaxTokens)
	for i, x := range []struct {
		l []api.Token
		e api.Errno
	}{
		{full, api.OK},
		{append(slices.Clone(full), tokens("x")...), api.ErrTooLarge},
		{append(slices.Clone(full), api.Token{}), api.ErrTooLarge},
		{make([]api.Token, api.MaxTokens+1), api.ErrTooLarge},
		{make([]api.Token, api.MaxTokens), api.ErrArg},
		{append(tokens("sum"), api.Token{}), api.ErrArg},
		{append(tokens("sum ( 1 )"), api.Token{Kind: api.TokenName, Text: "A"}), api.ErrArg},
		{[]api.Token{{Kind: api.TokenSymbol, Text: "two"}}, api.ErrArg},
		{[]api.Token{{Kind: api.TokenNumber, Text: "two"}}, api.ErrArg},
		{[]api.Token{{Kind: api.TokenNumber, Text: "01"}}, api.ErrArg},
		{[]api.Token{{Kind: api.TokenName, Text: "("}}, api.ErrArg},
		{[]api.Token{{Kind: 0, Text: "two"}}, api.ErrArg},
	} {
		if l, read, e := Line(tree, u, x.l); e != x.e || e != api.OK && len(l)+len(read) != 0 {
			t.Error(i, e, l, read)
		}
	}
}

// P7.2: there can be MaxTokens tokens in all, after each expansion.
func TestManyTokens(t *testing.T) {
	x := func(n int) string { return strings.Repeat("x ", n) }
	const most = api.MaxTokens
	for _, c := range []struct {
		macros []string
		line   string
		n      int
		e      api.Errno
	}{
		{[]string{"m:1 2"}, x(most-2) + "m", most, api.OK},
		{[]string{"m:1 2"}, x(most-1) + "m", 0, api.ErrTooLarge},
		{[]string{"m:1 2"}, "m " + x(most-1), 0, api.ErrTooLarge},
		{[]string{"m:1"}, x(most-1) + "m", most, api.OK},
		{[]string{"m"}, x(most-1) + "m", most - 1, api.OK},
		{[]string{"m:" + x(most)}, "m", most, api.OK},
		{[]string{"m:" + x(most)}, "m 1", 0, api.ErrTooLarge},
		{[]string{"m:" + x(most)}, "1 m", 0, api.ErrTooLarge},
		{[]string{"m:" + x(most/2) + "|" + x(most/2)}, "m", most, api.OK},
		{[]string{"m:" + x(most/2) + "|" + x(most/2) + "|x"}, "m", 0, api.ErrTooLarge},
		{[]string{"m:" + x(most/2)}, "m m", most, api.OK},
		{[]string{"m:" + x(most/2)}, "m m m", 0, api.ErrTooLarge},
		// the name and the parentheses do not stand there any more
		{[]string{"m a:a a a a"}, x(most-4) + "m ( 1 )", most, api.OK},
		{[]string{"m a:a a a a a"}, x(most-4) + "m ( 1 )", 0, api.ErrTooLarge},
		{[]string{"m a:a"}, x(most-4) + "m ( 1 )", most - 3, api.OK},
		{[]string{"m a:" + strings.Repeat("a ", 2)}, "m ( " + x(most/2) + ")", most, api.OK},
		{[]string{"m a:" + strings.Repeat("a ", 2)}, "m ( " + x(most/2+1) + ")", 0, api.ErrTooLarge},
		{[]string{"m a:" + strings.Repeat("a ", most)}, "m ( x )", most, api.OK},
		{[]string{"m a:" + strings.Repeat("a ", most)}, "m ( x x )", 0, api.ErrTooLarge},
		{[]string{"m a:" + strings.Repeat("a ", most)}, "m ( " + x(most-3) + ")", 0, api.ErrTooLarge},
		// also if the next expansion would leave fewer
		{[]string{"m:e e", "e"}, x(most-2) + "m", most - 2, api.OK},
		{[]string{"m:e e", "e"}, x(most-1) + "m", 0, api.ErrTooLarge},
		{[]string{"m:e e", "e"}, x(most-2) + "e m", most - 2, api.OK},
		{[]string{"m:e e", "e"}, x(most-2) + "m e", 0, api.ErrTooLarge},
		// 255 expansions for 128 tokens
		{doubling(7), name(0), 128, api.OK},
		{doubling(7), name(0) + " " + name(0), 0, api.ErrTooLarge},
		{doubling(7), name(1) + " " + name(1), 128, api.OK},
		{doubling(40), name(0), 0, api.ErrTooLarge},
	} {
		tree, u := unit(c.macros...)
		l, _, e := Line(tree, u, tokens(c.line))
		if e != c.e || len(l) != c.n {
			t.Error(c.macros[0][:min(len(c.macros[0]), 20)], c.line[max(0, len(c.line)-20):], e, len(l))
		}
	}
}

// doubling returns macros of which each one is the next one twice, but for the last one, with the names m0, m1 and so on.
func doubling(n int) []string {
	macros := []string{name(n) + ":1"}
	for i := range n {
		macros = append(macros, name(i)+":"+name(i+1)+" "+name(i+1))
	}
	return macros
}

// name returns the name of a macro with a number.
func name(n int) string { return "m" + string(rune('0'+n/10)) + string(rune('0'+n%10)) }

// P7.2: there can be MaxTokens expansions.
func TestManyExpansions(t *testing.T) {
	const most = api.MaxTokens
	macros := []string{"e", "one:1", "chain:one", "longer:chain", "bad:?", "id x:x", "gone:1"}
	for _, x := range []struct {
		line string
		n    int
		e    api.Errno
	}{
		{strings.Repeat("one ", most), most, api.OK},
		{strings.Repeat("e ", most), 0, api.OK},
		{strings.Repeat("chain ", most/2), most / 2, api.OK},
		{strings.Repeat("chain ", most/2) + "x", most/2 + 1, api.OK},
		{strings.Repeat("chain ", most/2) + "one", 0, api.ErrTooLarge},
		{strings.Repeat("chain ", most/2) + "e", 0, api.ErrTooLarge},
		{strings.Repeat("one ", most-1) + "chain", 0, api.ErrTooLarge},
		{"chain " + strings.Repeat("one ", most-1), 0, api.ErrTooLarge},
		{"chain " + strings.Repeat("one ", most-2), most - 1, api.OK},
		{strings.Repeat("one ", most-2) + "chain", most - 1, api.OK},
		{strings.Repeat("longer ", 85) + "e", 85, api.OK},
		{strings.Repeat("longer ", 85) + "e one", 0, api.ErrTooLarge},
		// one too many comes before its other errors
		{strings.Repeat("chain ", most/2) + "bad", 0, api.ErrTooLarge},
		{strings.Repeat("chain ", most/2) + "id", 0, api.ErrTooLarge},
		{strings.Repeat("chain ", most/2) + "id ( 1 , 2 )", 0, api.ErrTooLarge},
		{strings.Repeat("chain ", most/2-1) + "one bad", 0, api.ErrSyntax},
		{strings.Repeat("chain ", most/2-1) + "one id ( 1 , 2 )", 0, api.ErrMismatch},
		{strings.Repeat("chain ", most/2-1) + "one id ( 1 )", most/2 + 1, api.OK},
	} {
		tree, u := unit(macros...)
		if l, read, e := Line(tree, u, tokens(x.line)); e != x.e || len(l) != x.n || e != api.OK && len(read) != 0 {
			t.Error(x.line[:10], x.line[len(x.line)-10:], e, len(l))
		}
	}
}
