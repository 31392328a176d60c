package source

import (
	"slices"
	"strconv"
	"strings"
	"testing"

	"licit/api"
)

// names returns n different identifiers.
func names(n int) []string {
	var l []string
	for i := range n {
		l = append(l, "p"+strconv.Itoa(i))
	}
	return l
}

// longName is a name that has as many characters as it can have.
var longName = strings.Repeat("n", api.MaxName)

// P6.1 and P6.3: head lines with their heads, in both directions.
func TestHeads(t *testing.T) {
	for _, x := range []struct {
		line string
		h    api.Head
	}{
		{"", api.Head{}},
		{"include x.src", api.Head{Word: api.HeadInclude, Name: "x.src"}},
		{"include lib/x.src", api.Head{Word: api.HeadInclude, Name: "lib/x.src"}},
		{"include @base/y.src", api.Head{Word: api.HeadInclude, Name: "@base/y.src"}},
		{"include 1/2/3/4/5/6/7/8", api.Head{Word: api.HeadInclude, Name: "1/2/3/4/5/6/7/8"}},
		{"include @1/2/3/4/5/6/7/8", api.Head{Word: api.HeadInclude, Name: "@1/2/3/4/5/6/7/8"}},
		// what is not an identifier can still be a reference
		{"include let", api.Head{Word: api.HeadInclude, Name: "let"}},
		{"include 1", api.Head{Word: api.HeadInclude, Name: "1"}},
		{"define m 0", api.Head{Word: api.HeadDefine, Name: "m"}},
		{"define m a b 2", api.Head{Word: api.HeadDefine, Name: "m", Params: []string{"a", "b"}, N: 2}},
		{"undef m", api.Head{Word: api.HeadUndef, Name: "m"}},
		{"when big 1", api.Head{Word: api.HeadWhen, Name: "big", N: 1}},
		{"unless big 1024", api.Head{Word: api.HeadUnless, Name: "big", N: api.MaxLines}},
		{"when big 0", api.Head{Word: api.HeadWhen, Name: "big"}},
		{"note 0", api.Head{Word: api.HeadNote}},
		{"note 1024", api.Head{Word: api.HeadNote, N: api.MaxLines}},
		{"extern f", api.Head{Word: api.HeadExtern, Name: "f"}},
		{"fn f 0", api.Head{Word: api.HeadFn, Name: "f"}},
		{"fn add x y 1", api.Head{Word: api.HeadFn, Name: "add", Params: []string{"x", "y"}, N: 1}},
		{"export fn add x y 1", api.Head{Word: api.HeadFn, Mode: api.Export, Name: "add", Params: []string{"x", "y"}, N: 1}},
		{"weak fn add y x 10", api.Head{Word: api.HeadFn, Mode: api.Weak, Name: "add", Params: []string{"y", "x"}, N: 10}},
		{"data d 3", api.Head{Word: api.HeadData, Name: "d", N: 3}},
		{"export data d 3", api.Head{Word: api.HeadData, Mode: api.Export, Name: "d", N: 3}},
		{"weak data d 0", api.Head{Word: api.HeadData, Mode: api.Weak, Name: "d"}},
		// a parameter can have the name of what it belongs to
		{"fn f f 1", api.Head{Word: api.HeadFn, Name: "f", Params: []string{"f"}, N: 1}},
		{"define m m a 1", api.Head{Word: api.HeadDefine, Name: "m", Params: []string{"m", "a"}, N: 1}},
		{"fn f " + strings.Join(names(api.MaxParams), " ") + " 1", api.Head{Word: api.HeadFn, Name: "f", Params: names(api.MaxParams), N: 1}},
		{"define _ " + longName + " 1", api.Head{Word: api.HeadDefine, Name: "_", Params: []string{longName}, N: 1}},
		{"extern " + longName, api.Head{Word: api.HeadExtern, Name: longName}},
	} {
		if h, e := Parse(x.line); e != api.OK || !same(h, x.h) {
			t.Error(x.line, e, h)
		}
		if line, e := Print(x.h); e != api.OK || line != x.line {
			t.Error(x.h, e, line)
		}
	}
}

// P6.1: what is not a head line, with the first of its errors.
func TestNoHeads(t *testing.T) {
	most := strings.Join(names(api.MaxParams), " ")
	for _, x := range []struct {
		line string
		e    api.Errno
	}{
		// words that no row has
		{"x", api.ErrSyntax}, {"x 1", api.ErrSyntax}, {"include", api.ErrSyntax}, {"include a b", api.ErrSyntax}, {"include a 1", api.ErrSyntax},
		{"define", api.ErrSyntax}, {"define m", api.ErrSyntax}, {"define 1", api.ErrSyntax}, {"define m a", api.ErrSyntax}, {"define m 1 a", api.ErrSyntax},
		{"undef", api.ErrSyntax}, {"undef a b", api.ErrSyntax}, {"undef a 1", api.ErrSyntax},
		{"when", api.ErrSyntax}, {"when a", api.ErrSyntax}, {"when 1", api.ErrSyntax}, {"when a b 1", api.ErrSyntax}, {"unless a", api.ErrSyntax}, {"unless 1", api.ErrSyntax}, {"unless a b 1", api.ErrSyntax},
		{"note", api.ErrSyntax}, {"note a", api.ErrSyntax}, {"note a 1", api.ErrSyntax}, {"note 1 1", api.ErrSyntax},
		{"extern", api.ErrSyntax}, {"extern a b", api.ErrSyntax}, {"extern a 1", api.ErrSyntax},
		{"fn", api.ErrSyntax}, {"fn f", api.ErrSyntax}, {"fn 1", api.ErrSyntax}, {"data", api.ErrSyntax}, {"data d", api.ErrSyntax}, {"data 1", api.ErrSyntax}, {"data d a 1", api.ErrSyntax},
		{"export", api.ErrSyntax}, {"weak", api.ErrSyntax}, {"export f 1", api.ErrSyntax}, {"export fn", api.ErrSyntax}, {"weak data 1", api.ErrSyntax},
		{"export extern f", api.ErrSyntax}, {"weak define m 1", api.ErrSyntax}, {"export note 1", api.ErrSyntax}, {"weak include a", api.ErrSyntax}, {"export when a 1", api.ErrSyntax}, {"weak unless a 1", api.ErrSyntax}, {"export undef a", api.ErrSyntax},
		{"export export fn f 1", api.ErrSyntax}, {"export weak fn f 1", api.ErrSyntax}, {"fn export f 1 1x", api.ErrSyntax}, {"private fn f 1", api.ErrSyntax},
		{"FN f 1", api.ErrSyntax}, {"Fn f 1", api.ErrSyntax}, {"fnf 1", api.ErrSyntax}, {"function f 1", api.ErrSyntax},
		// empty words, and other bytes than blanks between words
		{" ", api.ErrSyntax}, {"  ", api.ErrSyntax}, {" note 1", api.ErrSyntax}, {"note 1 ", api.ErrSyntax}, {"note  1", api.ErrSyntax}, {"fn f  a 1", api.ErrSyntax}, {"extern ", api.ErrSyntax}, {"extern f ", api.ErrSyntax}, {"include ", api.ErrSyntax},
		{"note\t1", api.ErrSyntax}, {"note 1\n", api.ErrSyntax}, {"note 1\r", api.ErrSyntax}, {"\n", api.ErrSyntax},
		// numbers that are none
		{"fn add 01", api.ErrSyntax}, {"note 00", api.ErrSyntax}, {"note -1", api.ErrSyntax}, {"note +1", api.ErrSyntax}, {"note 1x", api.ErrSyntax}, {"note 0x1", api.ErrSyntax}, {"data d 1.", api.ErrSyntax},
		{"note 01025", api.ErrSyntax}, {"fn let let 01", api.ErrSyntax},
		// names that are none
		{"fn let 1", api.ErrName}, {"fn 1 1", api.ErrName}, {"fn F 1", api.ErrName}, {"fn f.a 1", api.ErrName}, {"fn f a fn 1", api.ErrName}, {"fn f 2 1", api.ErrName}, {"fn f a-b 1", api.ErrName},
		{"define in 1", api.ErrName}, {"define m out 1", api.ErrName}, {"undef 1", api.ErrName}, {"undef export", api.ErrName}, {"when weak 1", api.ErrName}, {"unless 2x 1", api.ErrName},
		{"extern fn", api.ErrName}, {"extern f\n", api.ErrName}, {"data data 1", api.ErrName}, {"export fn export 1", api.ErrName}, {"fn export f 1", api.ErrName}, {"weak data weak 1", api.ErrName}, {"when a\tb 1", api.ErrName},
		{"extern " + longName + "n", api.ErrName}, {"fn f " + longName + "n 1", api.ErrName},
		{"include A", api.ErrName}, {"include /a", api.ErrName}, {"include a/", api.ErrName}, {"include a//b", api.ErrName}, {"include @", api.ErrName}, {"include @a", api.ErrName}, {"include @/a", api.ErrName}, {"include @a/", api.ErrName}, {"include a@b/c", api.ErrName}, {"include @@a/b", api.ErrName}, {"include ..", api.ErrName}, {"include 1/2/3/4/5/6/7/8/9", api.ErrName}, {"include @1/2/3/4/5/6/7/8/9", api.ErrName},
		// parameters
		{"fn f a a 1", api.ErrTwice}, {"fn f a b a 1", api.ErrTwice}, {"define m a b b 1", api.ErrTwice},
		{"fn f " + most + " p0 1", api.ErrTwice}, {"fn f " + most + " p 1", api.ErrTooLarge}, {"define m " + most + " p 1", api.ErrTooLarge},
		{"fn f " + strings.Join(names(50000), " ") + " 1", api.ErrTooLarge},
		// numbers that are too large
		{"note 1025", api.ErrRange}, {"data d 4294967296", api.ErrRange}, {"when a 4294967295", api.ErrRange}, {"fn f 18446744073709551617", api.ErrRange}, {"note " + strings.Repeat("9", 1000), api.ErrRange}, {"fn f 2147483648", api.ErrRange},
		// several errors
		{"fn let a a 1025", api.ErrName}, {"fn f let let 1", api.ErrName}, {"fn f a a 1025", api.ErrTwice}, {"fn f " + most + " let 1", api.ErrName},
		{"fn f " + most + " p 1025", api.ErrTooLarge}, {"fn f " + most + " p 4294967296", api.ErrTooLarge}, {"data let 1025", api.ErrName}, {"when let 01", api.ErrSyntax}, {"include A B", api.ErrSyntax},
	} {
		if h, e := Parse(x.line); e != x.e || !same(h, api.Head{}) {
			t.Error(x.line[:min(len(x.line), 100)], e, h)
		}
	}
}

// P6.1: heads that are not valid have no line.
func TestPrintErrors(t *testing.T) {
	for i, h := range []api.Head{
		{Word: -1}, {Word: 10}, {Word: 10, Name: "f"},
		{Name: "f"}, {N: 1}, {Mode: api.Export}, {Params: []string{"a"}},
		{Word: api.HeadInclude}, {Word: api.HeadInclude, Name: "A"}, {Word: api.HeadInclude, Name: "a", N: 1}, {Word: api.HeadInclude, Name: "a", Mode: api.Weak}, {Word: api.HeadInclude, Name: "a", Params: []string{"b"}}, {Word: api.HeadInclude, Name: "@a"},
		{Word: api.HeadDefine, N: 1}, {Word: api.HeadDefine, Name: "m", Mode: api.Export}, {Word: api.HeadDefine, Name: "m", Params: []string{"a", "a"}}, {Word: api.HeadDefine, Name: "m", N: -1}, {Word: api.HeadDefine, Name: "m", Params: []string{""}},
		{Word: api.HeadUndef, Name: "m", N: 1}, {Word: api.HeadUndef, Name: "let"}, {Word: api.HeadUndef},
		{Word: api.HeadWhen, Name: "a", Params: []string{"b"}, N: 1}, {Word: api.HeadWhen, N: 1}, {Word: api.HeadUnless, Name: "a", N: api.MaxLines + 1}, {Word: api.HeadUnless, Name: "a", Mode: 1},
		{Word: api.HeadNote, Name: "a", N: 1}, {Word: api.HeadNote, N: -1}, {Word: api.HeadNote, N: api.MaxLines + 1}, {Word: api.HeadNote, Params: []string{"1"}},
		{Word: api.HeadExtern, Name: "f", Mode: api.Extern}, {Word: api.HeadExtern, Name: "f", N: 1}, {Word: api.HeadExtern, Name: "f "}, {Word: api.HeadExtern, Name: "f\n"},
		{Word: api.HeadFn, Name: "f", Mode: api.Extern}, {Word: api.HeadFn, Name: "f", Mode: -1}, {Word: api.HeadFn, Name: "f", Mode: 4}, {Word: api.HeadFn, Name: "f a", N: 1}, {Word: api.HeadFn, Name: "f", Params: []string{"a b"}}, {Word: api.HeadFn, Name: "f", Params: names(api.MaxParams + 1)}, {Word: api.HeadFn, Name: "fn"}, {Word: api.HeadFn, Name: "f", Params: []string{"1"}}, {Word: api.HeadFn},
		{Word: api.HeadData, Name: "d", Params: []string{"a"}}, {Word: api.HeadData, Name: "d", N: 1 << 62}, {Word: api.HeadData, Name: "d", N: -1 << 63}, {Word: api.HeadData, Name: "d", Mode: 3}, {Word: api.HeadData, Params: []string{"d"}, N: 1},
	} {
		if line, e := Print(h); e != api.ErrArg || line != "" {
			t.Error(i, h, e, line)
		}
	}
}

// P6.3: Print and Parse undo each other, for all lines of a few words.
func TestPrintAndParse(t *testing.T) {
	words := []string{"include", "define", "undef", "when", "unless", "note", "extern", "export", "weak", "fn", "data", "a", "b", "@a/b", "0", "7", ""}
	found := 0
	var grow func(line []string)
	grow = func(line []string) {
		s := strings.Join(line, " ")
		if h, e := Parse(s); e == api.OK {
			found++
			if again, e := Print(h); e != api.OK || again != s {
				t.Fatal(s, h, e, again)
			}
		}
		if len(line) < 4 {
			for _, w := range words {
				grow(append(slices.Clone(line), w))
			}
		}
	}
	grow(nil)
	// the empty line, which is met twice; include with 16 words; undef, extern and note with 2 words each; 4 lines of define, when, unless, fn and data each; 8 of define and fn with a parameter, and of fn and data with a mode
	if want := 2 + 16 + 3*2 + 5*4 + 4*8; found != want {
		t.Error(found, want)
	}
}

// P6.1: what references denote.
func TestReference(t *testing.T) {
	seven := "1/2/3/4/5/6/7"
	long := strings.Repeat(longName+"/", 3) + strings.Repeat("n", api.MaxPath-3*(api.MaxName+1)-2)
	for _, x := range []struct {
		name, ref string
		path      string
		e         api.Errno
	}{
		{"app", "lib/x.src", "app/lib/x.src", api.OK},
		{"app", "@base/y.src", "base/y.src", api.OK},
		{"app", "x", "app/x", api.OK},
		{"app", "app", "app/app", api.OK},
		{"app", "@app/x", "app/x", api.OK},
		{"a.b-c", "let", "a.b-c/let", api.OK},
		{longName, "x", longName + "/x", api.OK},
		{"0", seven, "0/" + seven, api.OK},
		{"0", "@" + seven + "/8", seven + "/8", api.OK},
		{"a", long, "a/" + long, api.OK},
		// the name is not a name part
		{"", "x", "", api.ErrName}, {"a/b", "x", "", api.ErrName}, {"A", "x", "", api.ErrName}, {"@a", "x", "", api.ErrName}, {".", "x", "", api.ErrName}, {"a/", "x", "", api.ErrName}, {longName + "n", "x", "", api.ErrName}, {"", "@a/b", "", api.ErrName}, {"A", "@a/b", "", api.ErrName}, {"a/b", "@a/b", "", api.ErrName},
		// the reference is not one
		{"a", "", "", api.ErrName}, {"a", "@", "", api.ErrName}, {"a", "@b", "", api.ErrName}, {"a", "@/b", "", api.ErrName}, {"a", "@b/", "", api.ErrName}, {"a", "/b", "", api.ErrName}, {"a", "b/", "", api.ErrName}, {"a", "B", "", api.ErrName}, {"a", "@a/B", "", api.ErrName}, {"a", "@@a/b", "", api.ErrName}, {"a", "a/@b", "", api.ErrName}, {"a", " b", "", api.ErrName}, {"a", "@" + seven + "/8/9", "", api.ErrName},
		// what it denotes is not a path
		{"0", seven + "/8", "", api.ErrName}, {"ab", long, "", api.ErrName},
	} {
		if path, e := Reference(x.name, x.ref); e != x.e || path != x.path {
			t.Error(x.name, x.ref, e, path)
		}
	}
}
