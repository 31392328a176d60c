package expand

import (
	"slices"
	"strconv"
	"strings"
	"testing"

	"licit/api"
	"licit/source"
	"licit/token"
)

// tokens returns the tokens of a line that has no error.
func tokens(line string) []api.Token {
	l, e := token.Tokens(line)
	if e != api.OK {
		panic(line)
	}
	return l
}

// unit returns a unit with macros, and a tree with a file a/m of their bodies. A macro is written as its name and its parameters, and behind a colon its lines with | between them; without a colon it has no lines.
func unit(macros ...string) (api.Tree, api.Unit) {
	var lines []string
	var u api.Unit
	for _, m := range macros {
		head, body, found := strings.Cut(m, ":")
		words := strings.Fields(head)
		from := len(lines)
		if found {
			lines = append(lines, strings.Split(body, "|")...)
		}
		u.Macros = append(u.Macros, api.Macro{Name: words[0], Params: words[1:], Body: api.Span{Path: "a/m", From: from, To: len(lines)}})
	}
	return api.Tree{{Path: "a/m", Data: strings.Join(lines, "\n")}}, u
}

// show returns a set of lines as text.
func show(set api.Lines) string {
	var spans []string
	for _, s := range set {
		spans = append(spans, s.Path+":"+strconv.Itoa(s.From)+"-"+strconv.Itoa(s.To))
	}
	return strings.Join(spans, " ")
}

// example is the macros of the chapter, and some others.
var example = []string{"two:2", "sum a b:( a + b )", "p:q", "q:p", "none", "blank:", "id x:x", "twice x:x x", "lines:1 +|| 2 + |3", "swap a b:b a"}

// P7.2: lines, what is left of them, and what was read for that.
func TestLine(t *testing.T) {
	for _, x := range []struct{ line, want, read string }{
		{"x * sum ( two , sum )", "x * ( 2 + sum )", "a/m:0-2"},
		{"p", "p", "a/m:2-4"},
		{"", "", ""}, {"x", "x", ""}, {"1 + ( x )", "1 + ( x )", ""}, {"twos , summ", "twos , summ", ""},
		// macros without parameters
		{"two", "2", "a/m:0-1"}, {"two two", "2 2", "a/m:0-1"}, {"two ( 1 )", "2 ( 1 )", "a/m:0-1"}, {"- two * x", "- 2 * x", "a/m:0-1"}, {"( two )", "( 2 )", "a/m:0-1"},
		{"q", "q", "a/m:2-4"}, {"p q", "p q", "a/m:2-4"}, {"lines", "1 + 2 + 3", "a/m:7-11"}, {"x lines y", "x 1 + 2 + 3 y", "a/m:7-11"},
		// empty bodies
		{"none", "", ""}, {"blank", "", "a/m:4-5"}, {"x none y blank z", "x y z", "a/m:4-5"}, {"none none", "", ""}, {"none two none", "2", "a/m:0-1"},
		{"id ( none )", "", "a/m:5-6"}, {"sum ( none , blank )", "( + )", "a/m:1-2 a/m:4-5"},
		// macros with parameters
		{"sum ( 1 , 2 )", "( 1 + 2 )", "a/m:1-2"}, {"sum ( 1 , 2 ) sum ( 3 , 4 )", "( 1 + 2 ) ( 3 + 4 )", "a/m:1-2"}, {"sum ( 1 , 2 ) ( 3 )", "( 1 + 2 ) ( 3 )", "a/m:1-2"},
		{"sum ( x y , - 1 )", "( x y + - 1 )", "a/m:1-2"}, {"twice ( x + 1 )", "x + 1 x + 1", "a/m:6-7"},
		// parentheses and commas in arguments
		{"sum ( ( 1 , 2 ) , f ( 3 , ( 4 , 5 ) ) )", "( ( 1 , 2 ) + f ( 3 , ( 4 , 5 ) ) )", "a/m:1-2"}, {"id ( ( ) )", "( )", "a/m:5-6"}, {"id ( ( ( , ) ) )", "( ( , ) )", "a/m:5-6"}, {"id ( ( 1 ) ( 2 ) )", "( 1 ) ( 2 )", "a/m:5-6"},
		{"sum ( ( , ) , ( , ) )", "( ( , ) + ( , ) )", "a/m:1-2"}, {"( id ( 1 ) )", "( 1 )", "a/m:5-6"}, {"f ( id ( 1 ) , 2 )", "f ( 1 , 2 )", "a/m:5-6"}, {") id ( 1 ) (", ") 1 (", "a/m:5-6"},
		// arguments that are names of parameters, or of macros
		{"sum ( b , a )", "( b + a )", "a/m:1-2"}, {"swap ( a , b )", "b a", "a/m:11-12"}, {"id ( x )", "x", "a/m:5-6"}, {"twice ( two )", "2 2", "a/m:0-1 a/m:6-7"}, {"sum ( two , lines )", "( 2 + 1 + 2 + 3 )", "a/m:0-2 a/m:7-11"},
		{"id ( twice ) ( two )", "2 2", "a/m:0-1 a/m:5-7"}, {"id ( two ) two", "2 2", "a/m:0-1 a/m:5-6"}, {"twice ( p )", "p p", "a/m:2-4 a/m:6-7"},
		// within its own expansion a macro stays a name, which needs no arguments
		{"id ( id )", "id", "a/m:5-6"}, {"id ( id ( 1 ) )", "id ( 1 )", "a/m:5-6"}, {"sum ( sum ( 1 , 2 ) , 3 )", "( sum ( 1 , 2 ) + 3 )", "a/m:1-2"}, {"sum ( id ( sum ) , id ( 1 ) )", "( sum + 1 )", "a/m:1-2 a/m:5-6"},
		{"twice ( id ( twice ( 1 ) ) )", "twice ( 1 ) twice ( 1 )", "a/m:5-7"}, {"id ( 1 ) id ( id )", "1 id", "a/m:5-6"}, {"id ( swap ) ( 1 , id )", "id 1", "a/m:5-6 a/m:11-12"},
	} {
		tree, u := unit(example...)
		l, read, e := Line(tree, u, tokens(x.line))
		text, e2 := token.Print(l)
		if e != api.OK || e2 != api.OK || text != x.want || show(read) != x.read {
			t.Error(x.line, e, text, show(read))
		}
	}
}

// P7.2: names that are hidden.
func TestHidden(t *testing.T) {
	for _, x := range []struct {
		macros     []string
		line, want string
	}{
		{[]string{"a:a"}, "a a", "a a"},
		{[]string{"a:a + 1"}, "a", "a + 1"},
		{[]string{"a:b b", "b:a c", "c:b a"}, "a", "a b a a b a"},
		{[]string{"a:b b", "b:a c", "c:b a"}, "c", "b b c a c a c"},
		// what is hidden in a name is hidden in all that it becomes, also in arguments
		{[]string{"g:f", "f x:x g"}, "g ( 1 )", "1 g"},
		{[]string{"g:f", "f x:x g"}, "g ( g )", "g g"},
		{[]string{"g:f", "f x:x g"}, "f ( g )", "f f"},
		{[]string{"a:f ( a )", "f x:x b", "b:a"}, "a", "a a"},
		{[]string{"a:f ( 1 )", "f x:x b", "b:a f"}, "a", "1 a f"},
		{[]string{"f x:x b", "b:a f", "a:f ( 1 )"}, "b", ""},
		// arguments keep what was hidden in them, which the rest of the body does not have
		{[]string{"f x:x a", "a:f ( a )"}, "a", "a a"},
		{[]string{"f x:x a", "a:1"}, "f ( a )", "1 1"},
		{[]string{"f x:g ( x ) a", "g x:x", "a:2"}, "f ( a )", "2 2"},
		{[]string{"a:b ) a", "b:f (", "f x:x c", "c:a b"}, "a", ""},
		{[]string{"a:f ( b", "f x:x", "b:a"}, "a )", "a"},
		{[]string{"a:f ( b", "f x:x c", "b:2", "c:b a"}, "a a )", "2 a 2 a"},
		{[]string{"a:f", "f x:x", "b:f ( a ) a"}, "b", ""},
		// the parentheses can come from elsewhere, and what was hidden in them does not matter
		{[]string{"open:f (", "f x:x open"}, "open 1 )", "1 open"},
		{[]string{"f x:x f"}, "f ( 1 ) ( 2 )", "1 f ( 2 )"},
		{[]string{"f x:x", "g:f"}, "g g ( 1 )", ""},
		{[]string{"f x:g", "g x:x"}, "f ( 1 ) ( 2 )", "2"},
		{[]string{"f x:g", "g x:f"}, "f ( 1 ) ( 2 ) ( 3 )", "f ( 3 )"},
	} {
		tree, u := unit(x.macros...)
		l, _, e := Line(tree, u, tokens(x.line))
		text, _ := token.Print(l)
		if want := map[bool]api.Errno{true: api.ErrSyntax, false: api.OK}[x.want == ""]; e != want || text != x.want {
			t.Error(x.macros, x.line, e, text)
		}
	}
}

// P7.2: units that no file has.
func TestOtherUnits(t *testing.T) {
	for _, x := range []struct {
		macros     []string
		line, want string
	}{
		// of two macros with one name the first one is meant, also if the other one has parameters
		{[]string{"a:1", "a:2"}, "a a", "1 1"},
		{[]string{"a:1", "a x:x"}, "a ( 3 )", "1 ( 3 )"},
		{[]string{"a x:x", "a:1"}, "a ( 3 )", "3"},
		{[]string{"b:a", "a:1", "a:b"}, "b", "1"},
		{[]string{"a:a", "a:1"}, "a", "a"},
		// of two parameters with one name the first one
		{[]string{"a x x:x"}, "a ( 1 , 2 )", "1"},
		{[]string{"a x y x:x y x"}, "a ( 1 , 2 , 3 )", "1 2 1"},
		// names that are not identifiers: keywords are names, numbers and symbols are not
		{[]string{"let:1", "in:2"}, "let in load", "1 2 load"},
		{[]string{"5:x", "+:x", "(:x", ",:x", "a:1"}, "5 + ( a , 5 )", "5 + ( 1 , 5 )"},
		{[]string{"a 5 + let:5 + let"}, "a ( 1 , 2 , 3 )", "5 + 3"},
		{[]string{"A:1"}, "a", "a"},
		// more parameters than there may be
		{[]string{"f a b c d e g h i j k:k a"}, "f ( 1 , 2 , 3 , 4 , 5 , 6 , 7 , 8 , 9 , 10 )", "10 1"},
		// a parameter with the name of its macro, or of another one
		{[]string{"f f:f"}, "f ( 1 )", "1"}, {[]string{"f f:f"}, "f ( f )", "f"}, {[]string{"f g:g", "g:1"}, "f ( 2 )", "2"}, {[]string{"f g:g", "g:1"}, "f ( g )", "1"},
	} {
		tree, u := unit(x.macros...)
		l, _, e := Line(tree, u, tokens(x.line))
		text, _ := token.Print(l)
		if e != api.OK || text != x.want {
			t.Error(x.macros, x.line, e, text)
		}
	}
	// no macros, and one without a name
	for _, u := range []api.Unit{{}, {Macros: make([]api.Macro, 3)}} {
		if l, read, e := Line(nil, u, tokens("a + 1")); e != api.OK || !slices.Equal(l, tokens("a + 1")) || len(read) != 0 {
			t.Error(e, l, read)
		}
	}
}

// P7.2: the macros of units that were read.
func TestUnit(t *testing.T) {
	tree := api.Tree{
		{Path: "a/k", Data: "note 1\n\ndefine five 1\n5\ndefine both x y 2\nx +\ny * five"},
		{Path: "b/m", Data: "include @a/k\nundef five\ndefine five 2\n2\n+ 3"},
	}
	u, f := source.Scan(tree, "b/m", nil)
	l, read, e := Line(tree, u, tokens("both ( five , 1 )"))
	if f.Error != api.OK || e != api.OK || !slices.Equal(l, tokens("2 + 3 + 1 * 2 + 3")) || show(read) != "a/k:5-7 b/m:3-5" {
		t.Error(f, e, l, show(read))
	}
}

// P7.2: the lines that were read are a set, of the bodies of those macros that were expanded.
func TestRead(t *testing.T) {
	tree := api.Tree{{Path: "a/m", Data: "x\nx\nx\nx\nx\nx"}, {Path: "a", Data: "y\ny"}, {Path: "a/m", Data: "z"}}
	body := func(name, path string, from, to int) api.Macro {
		return api.Macro{Name: name, Body: api.Span{Path: path, From: from, To: to}}
	}
	u := api.Unit{Macros: []api.Macro{body("b", "a/m", 2, 4), body("c", "a/m", 3, 5), body("d", "a/m", 0, 6), body("e", "a", 1, 2), body("f", "a/m", 1, 2), body("g", "a/m", 5, 6), body("h", "a/m", 4, 4), body("i", "a/m", 3, 4)}}
	for _, x := range []struct{ line, read string }{
		{"b", "a/m:2-4"}, {"b c", "a/m:2-5"}, {"c b", "a/m:2-5"}, {"b e", "a:1-2 a/m:2-4"}, {"b d", "a/m:0-6"}, {"d i", "a/m:0-6"}, {"i d e", "a:1-2 a/m:0-6"}, {"b f", "a/m:1-4"}, {"f g", "a/m:1-2 a/m:5-6"}, {"g h f", "a/m:1-2 a/m:5-6"}, {"h", ""}, {"b i", "a/m:2-4"}, {"b b b", "a/m:2-4"}, {"f b c g", "a/m:1-6"},
	} {
		if _, read, e := Line(tree, u, tokens(x.line)); e != api.OK || show(read) != x.read {
			t.Error(x.line, e, show(read))
		}
	}
}
