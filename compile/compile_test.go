package compile

import (
	"slices"
	"testing"

	"licit/api"
)

// P9.1: the example of the chapter.
func TestExample(t *testing.T) {
	tree := files("a/m", "fn f x 1;return x + 1 * 2;data d 1;1, f")
	u := scanned(t, tree)
	s, l, f := Section(tree, u, "f")
	if want := "\x01\x01\x02\x00\x01\x02\x00\x00\x00\x09\x0d\x0d\x01\x00\x00\x00\x00\x0d"; f != (api.Fault{}) || s.Kind != api.SectionCode || s.Data != want || len(s.Relocs) != 0 {
		t.Errorf("%v %q %v", f, s.Data, s.Relocs)
	}
	if want := (api.Lines{{Path: "a/m", From: 1, To: 2}}); !slices.Equal(l, want) {
		t.Error(l)
	}
	s, l, f = Section(tree, u, "d")
	if f != (api.Fault{}) || s.Kind != api.SectionData || s.Data != "\x01\x00\x00\x00\x00\x00\x00\x00" || !slices.Equal(s.Relocs, []api.Reloc{{At: 4, Symbol: "f"}}) {
		t.Errorf("%v %q %v", f, s.Data, s.Relocs)
	}
	if want := (api.Lines{{Path: "a/m", From: 3, To: 4}}); !slices.Equal(l, want) {
		t.Error(l)
	}
	// in "if 0 2" the next two lines are not read
	s, l, f = section(t, "fn t", "if 0 2;?;?;do 1")
	if f != (api.Fault{}) || listing(s) != "0 0; 1; drop" || showLines(l) != "0 3" {
		t.Error(f, listing(s), showLines(l))
	}
}

// P9.1: each row of the table of instructions, byte by byte, behind the numbers 2 and 2 and in front of the end.
func TestInstructions(t *testing.T) {
	end := "\x01\x00\x00\x00\x00\x0d"
	for line, want := range map[string]string{
		"do 67305985":           "\x01\x01\x02\x03\x04\x0e",
		"do 4294967295":         "\x01\xff\xff\xff\xff\x0e",
		"do -2":                 "\x01\xfe\xff\xff\xff\x0e",
		"do x":                  "\x02\x00\x0e",
		"do y":                  "\x02\x01\x0e",
		"set y = x":             "\x02\x00\x03\x01",
		"do load(x)":            "\x02\x00\x04\x0e",
		"store x = y":           "\x02\x00\x02\x01\x05",
		"do in()":               "\x06\x0e",
		"out x":                 "\x02\x00\x07",
		"return x":              "\x02\x00\x0d",
		"do x()":                "\x02\x00\x0c\x00\x0e",
		"do x(y,x)":             "\x02\x01\x02\x00\x02\x00\x0c\x02\x0e",
		"do x(y,y,y,y,y,y,y,y)": "\x02\x01\x02\x01\x02\x01\x02\x01\x02\x01\x02\x01\x02\x01\x02\x01\x02\x00\x0c\x08\x0e",
		"if x 0":                "\x02\x00\x0b\x00\x00\x00\x00",
		"if x 1;do y":           "\x02\x00\x0b\x03\x00\x00\x00\x02\x01\x0e",
		"if x 0;else 0":         "\x02\x00\x0b\x05\x00\x00\x00\x0a\x00\x00\x00\x00",
		"while x 0":             "\x02\x00\x0b\x05\x00\x00\x00\x0a\xf4\xff\xff\xff",
		"while 1 0":             "\x0a\xfb\xff\xff\xff",
		"while 1 1;out x":       "\x02\x00\x07\x0a\xf8\xff\xff\xff",
	} {
		s, _, f := section(t, "fn t x y", line)
		if f.Error != api.OK || s.Kind != api.SectionCode || s.Data != "\x02\x02"+want+end || len(s.Relocs) != 0 {
			t.Errorf("%s: %v %q", line, f, s.Data)
		}
	}
	for i, op := range unaryOps {
		s, _, f := section(t, "fn t x", "do "+op+"x")
		if want := "\x01\x01\x02\x00\x08" + string(rune(i)) + "\x0e" + end; f.Error != api.OK || s.Data != want {
			t.Errorf("%s: %v %q", op, f, s.Data)
		}
	}
	for i, op := range binaryOps {
		s, _, f := section(t, "fn t x y", "do y"+op+"x")
		if want := "\x02\x02\x02\x01\x02\x00\x09" + string(rune(i)) + "\x0e" + end; f.Error != api.OK || s.Data != want {
			t.Errorf("%s: %v %q", op, f, s.Data)
		}
	}
	if len(unaryOps) != 3 || len(binaryOps) != 18 {
		t.Error(unaryOps, binaryOps)
	}
	// a function without lines has only its end
	s, l, f := section(t, "fn t a b c", "")
	if f.Error != api.OK || s.Data != "\x03\x03"+end || len(l) != 0 {
		t.Errorf("%v %q %v", f, s.Data, l)
	}
}

// P9.1: words with relocations.
func TestRelocs(t *testing.T) {
	s, _, f := section(t, "fn t x", "do f;do g() + e;do d;do t(x);do f(g, d)")
	want := []api.Reloc{{At: 3, Symbol: "f"}, {At: 9, Symbol: "g"}, {At: 16, Symbol: "e"}, {At: 24, Symbol: "d"}, {At: 32, Symbol: "t"}, {At: 40, Symbol: "g"}, {At: 45, Symbol: "d"}, {At: 50, Symbol: "f"}}
	if f.Error != api.OK || !slices.Equal(s.Relocs, want) || listing(s) != "1 1; @f; drop; @g; call 0; @e; +; drop; @d; drop; get 0; @t; call 1; drop; @g; @d; @f; call 2; drop" {
		t.Error(f, s.Relocs, listing(s))
	}
}

// P9.1: expressions and statements, with the lines that were read.
func TestStatements(t *testing.T) {
	for _, x := range []struct{ text, want, read string }{
		// lines without tokens
		{";;", "1 1", "0 1 2"}, {"  ", "1 1", "0"}, {"none", "1 1", "0"}, {"none none;;do x", "1 1; get 0; drop", "0 1 2"},
		// each row
		{"let y = 5", "1 2; 5; set 1", "0"},
		{"set x = in()", "1 1; in; set 0", "0"},
		{"return x", "1 1; get 0; return", "0"},
		{"return 1;return 2", "1 1; 1; return; 2; return", "0 1"},
		{"do load(x + 4)", "1 1; get 0; 4; +; load; drop", "0"},
		{"out x", "1 1; get 0; out", "0"},
		{"store x = in()", "1 1; get 0; in; store", "0"},
		{"store d + 4 = load(e)", "1 1; @d; 4; +; @e; load; store", "0"},
		{"store 1 = 2", "1 1; 1; 2; store", "0"},
		// folded formulas
		{"do 2 * 3 + x", "1 1; 6; get 0; +; drop", "0"}, {"do x + 2 * 3", "1 1; get 0; 6; +; drop", "0"}, {"do x + 2 + 3", "1 1; get 0; 2; +; 3; +; drop", "0"},
		{"do 1 && x || 0", "1 1; 1; get 0; &&; 0; ||; drop", "0"}, {"do - - x", "1 1; get 0; -1; -1; drop", "0"}, {"do !(3 - 3)", "1 1; 1; drop", "0"},
		{"store 2 * 4 = -1 >> 1", "1 1; 8; -1; store", "0"},
		// the order of operands, arguments and addresses
		{"do x - in() * load(x)", "1 1; get 0; in; get 0; load; *; -; drop", "0"}, {"do f(in(), g())", "1 1; in; @g; call 0; @f; call 2; drop", "0"}, {"do e(e(), e)", "1 1; @e; call 0; @e; @e; call 2; drop", "0"},
		{"do d(x, 1, 2)", "1 1; get 0; 1; 2; @d; call 3; drop", "0"}, {"do t(t(x))", "1 1; get 0; @t; call 1; @t; call 1; drop", "0"},
		// macros are expanded first, and their lines are read
		{"do two * sum(x, two)", "1 1; 2; get 0; 2; +; *; drop", "#5 #7 0"}, {"do lines + x", "1 1; 3; get 0; +; drop", "#9 #10 0"}, {"ret", "1 1; 7; return", "#13 0"}, {"none do none x none", "1 1; get 0; drop", "0"},
		{"let y = two;;do y", "1 2; 2; set 1; get 1; drop", "#5 0 1 2"}, {"ret;ret;do two;do lines", "1 1; 7; return; 7; return; 2; drop; 3; drop", "#5 #9 #10 #13 0 1 2 3"},
		{"if x two;do 1;do 3;do 4", "1 1; get 0; zero 12; 1; drop; 3; drop; 4; drop", "#5 0 1 2 3"},
		// a name of a macro as a variable is another one
		{"do x", "1 1; get 0; drop", "0"},
	} {
		s, l, f := section(t, "fn t x", x.text)
		if f != (api.Fault{}) || listing(s) != x.want || showLines(l) != x.read {
			t.Error(x.text, f, listing(s), showLines(l))
		}
	}
}

// P9.1: variables, their indices, and where they are visible.
func TestVariables(t *testing.T) {
	for _, x := range []struct{ head, text, want string }{
		{"fn t", "let a = 1;let b = a;set a = b", "0 2; 1; set 0; get 0; set 1; get 1; set 0"},
		{"fn t p q", "let a = q;let b = p;return a - b", "2 4; get 1; set 2; get 0; set 3; get 2; get 3; -; return"},
		// from the line behind the let on
		{"fn t", "let d = d;do d", "0 1; @d; set 0; get 0; drop"}, {"fn t", "do g;let g = g();do g()", "0 1; @g; drop; @g; call 0; set 0; get 0; call 0; drop"},
		// variables with the names of items, that of the function itself, too
		{"fn t f", "do f", "1 1; get 0; drop"}, {"fn t f", "do f(1)", "1 1; 1; get 0; call 1; drop"}, {"fn t t", "do t();set t = 1", "1 1; get 0; call 0; drop; 1; set 0"}, {"fn t e", "let f = e;do f(1,2,3)", "1 2; get 0; set 1; 1; 2; 3; get 1; call 3; drop"},
		// locals whose block has ended: their index stays, their name is free, or that of an item again
		{"fn t x", "if x 2;let a = 1;do a;let a = 2;do a", "1 3; get 0; zero 10; 1; set 1; get 1; drop; 2; set 2; get 2; drop"},
		{"fn t x", "if x 2;let g = 1;do g;do g", "1 2; get 0; zero 10; 1; set 1; get 1; drop; @g; drop"},
		{"fn t x", "if x 1;let a = 1;else 1;let a = 2;while x 1;let a = 3", "1 4; get 0; zero 12; 1; set 1; jump 7; 2; set 2; get 0; zero 12; 3; set 3; jump -19"},
		{"fn t", "if 1 2;let a = 1;do a;let a = 2;do a", "0 2; 1; set 0; get 0; drop; 2; set 1; get 1; drop"},
		{"fn t", "if 0 0;else 1;let a = 1;let a = 2", "0 2; 1; set 0; 2; set 1"},
		// outer variables are visible in inner blocks, also those that come behind a block
		{"fn t x", "let a = 1;if x 2;let b = a;set a = b;set a = x", "1 3; 1; set 1; get 0; zero 8; get 1; set 2; get 2; set 1; get 0; set 1"},
		{"fn t x", "if x 3;if x 1;let a = 1;let a = 2;let a = 3", "1 4; get 0; zero 21; get 0; zero 7; 1; set 1; 2; set 2; 3; set 3"},
		// no variables of blocks that are left out
		{"fn t", "if 0 1;let a = 1;let b = 2", "0 1; 2; set 0"},
	} {
		s, _, f := section(t, x.head, x.text)
		if f.Error != api.OK || listing(s) != x.want {
			t.Error(x.head, x.text, f, listing(s))
		}
	}
}

// P9.1: blocks, where their jumps go, and what is read of them.
func TestBlocks(t *testing.T) {
	for _, x := range []struct{ text, want, read string }{
		{"if x 2;do 1;do 2;do 3", "1 1; get 0; zero 12; 1; drop; 2; drop; 3; drop", "0 1 2 3"},
		{"if x 0;do 3", "1 1; get 0; zero 0; 3; drop", "0 1"},
		{"if x + 1 1;do 1", "1 1; get 0; 1; +; zero 6; 1; drop", "0 1"},
		{"if x 1;do 1;else 1;do 2;do 3", "1 1; get 0; zero 11; 1; drop; jump 6; 2; drop; 3; drop", "0 1 2 3 4"},
		{"if x 0;else 1;do 2", "1 1; get 0; zero 5; jump 6; 2; drop", "0 1 2"},
		{"if x 1;do 1;else 0", "1 1; get 0; zero 11; 1; drop; jump 0", "0 1 2"},
		{"if x 0;else 0;do 3", "1 1; get 0; zero 5; jump 0; 3; drop", "0 1 2"},
		{"while x 1;do 1;do 3", "1 1; get 0; zero 11; 1; drop; jump -18; 3; drop", "0 1 2"},
		{"while x 0;do 3", "1 1; get 0; zero 5; jump -12; 3; drop", "0 1"},
		{"do 0;while in() 1;do 1", "1 1; 0; drop; in; zero 11; 1; drop; jump -17", "0 1 2"},
		// constants
		{"if 1 1;do 1;do 3", "1 1; 1; drop; 3; drop", "0 1 2"}, {"if 1 - 1 1;do 1;do 3", "1 1; 3; drop", "0 2"}, {"if 0 0;do 3", "1 1; 3; drop", "0 1"}, {"if 2 * two 0;do 3", "1 1; 3; drop", "#5 0 1"},
		{"if -1 1;do 1;else 1;do 2;do 3", "1 1; 1; drop; 3; drop", "0 1 2 4"}, {"if 0 1;do 1;else 1;do 2;do 3", "1 1; 2; drop; 3; drop", "0 2 3 4"}, {"if 0 1;?;else 0", "1 1", "0 2"}, {"if 5 0;else 1;?", "1 1", "0 1"},
		{"while 0 1;?;do 3", "1 1; 3; drop", "0 2"}, {"while 0 0", "1 1", "0"}, {"while 1 1;do 1", "1 1; 1; drop; jump -11", "0 1"}, {"while 1 0;do 3", "1 1; jump -5; 3; drop", "0 1"},
		{"if x && 0 1;do 1", "1 1; get 0; 0; &&; zero 6; 1; drop", "0 1"}, {"if two - two 1;?", "1 1", "#5 0"},
		// an else belongs to the if in front of it in its own block
		{"if x 2;if x 1;do 1;else 1;do 2", "1 1; get 0; zero 18; get 0; zero 6; 1; drop; jump 6; 2; drop", "0 1 2 3 4"},
		{"if x 4;if x 1;do 1;else 1;do 2;else 1;do 3", "1 1; get 0; zero 29; get 0; zero 11; 1; drop; jump 6; 2; drop; jump 6; 3; drop", "0 1 2 3 4 5 6"},
		{"if x 0;else 2;if x 0;else 0;if x 0;else 0", "1 1; get 0; zero 5; jump 12; get 0; zero 5; jump 0; get 0; zero 5; jump 0", "0 1 2 3 4 5"},
		{"if x 1;while x 0;else 1;do 1", "1 1; get 0; zero 17; get 0; zero 5; jump -12; jump 6; 1; drop", "0 1 2 3"},
		{"if 0 2;if x 1;do 1;else 1;do 2", "1 1; 2; drop", "0 3 4"},
		// blocks in blocks
		{"while x 3;while x 1;do 1;do 2;do 3", "1 1; get 0; zero 29; get 0; zero 11; 1; drop; jump -18; 2; drop; jump -36; 3; drop", "0 1 2 3 4"},
		{"if 1 4;if 0 1;?;else 1;do 1;do 2", "1 1; 1; drop; 2; drop", "0 1 3 4 5"},
		{"while 1 4;if x 1;return 1;while 0 1;?", "1 1; get 0; zero 6; 1; return; jump -18", "0 1 2 3"},
		{"if 0 3;while x 9;?;else 5;else 2;do 1;do 2", "1 1; 1; drop; 2; drop", "0 4 5 6"},
		// lines without tokens are lines of a block
		{"if x 2;;do 1;do 2", "1 1; get 0; zero 6; 1; drop; 2; drop", "0 1 2 3"}, {"if x 1;;else 1;;do 2", "1 1; get 0; zero 5; jump 0; 2; drop", "0 1 2 3 4"},
	} {
		s, l, f := section(t, "fn t x", x.text)
		if f != (api.Fault{}) || listing(s) != x.want || showLines(l) != x.read {
			t.Error(x.text, f, listing(s), showLines(l))
		}
	}
}

// P9.1: data.
func TestData(t *testing.T) {
	for _, x := range []struct{ text, want, read string }{
		{"", "", ""}, {";", "", "0 1"}, {"none; ;7", "7", "0 1 2"},
		{"1", "1", "0"}, {"1,2,3;4", "1 2 3 4", "0 1"}, {"4294967295", "-1", "0"}, {"67305985", "67305985", "0"},
		{"1 + 2 * 3, -1, !0", "7 -1 1", "0"}, {"(1), ((2))", "1 2", "0"}, {"two, sum(1, two), lines", "2 3 3", "#5 #7 #9 #10 0"},
		{"f, g, d, e, t", "@f @g @d @e @t", "0"}, {"1, f;f, 2", "1 @f @f 2", "0 1"}, {"0, d, 0", "0 @d 0", "0"},
		// of the commas only those count that do not stand in parentheses
		{"sum(1, 2), 3", "3 3", "#7 0"}, {"(1 + (2)), (3)", "3 3", "0"},
	} {
		s, l, f := section(t, "data t", x.text)
		if f != (api.Fault{}) || s.Kind != api.SectionData || words(s) != x.want || showLines(l) != x.read {
			t.Error(x.text, f, words(s), showLines(l))
		}
	}
	s, _, f := section(t, "data t", "1, f;d;2;t")
	if want := []api.Reloc{{At: 4, Symbol: "f"}, {At: 8, Symbol: "d"}, {At: 16, Symbol: "t"}}; f.Error != api.OK || !slices.Equal(s.Relocs, want) {
		t.Error(f, s.Relocs)
	}
	if s, _, _ := section(t, "data t", "67305985,-2"); s.Data != "\x01\x02\x03\x04\xfe\xff\xff\xff" {
		t.Errorf("%q", s.Data)
	}
}
