package source

import (
	"slices"
	"strconv"
	"strings"
	"testing"

	"licit/api"
)

// files returns a tree of paths with their texts, in which | stands for a line feed.
func files(parts ...string) api.Tree {
	var t api.Tree
	for i := 0; i < len(parts); i += 2 {
		t = append(t, api.File{Path: parts[i], Data: strings.ReplaceAll(parts[i+1], "|", "\n")})
	}
	slices.SortFunc(t, func(a, b api.File) int { return strings.Compare(a.Path, b.Path) })
	return t
}

// showSpan returns a span as a text.
func showSpan(s api.Span) string {
	return s.Path + ":" + strconv.Itoa(s.From) + "-" + strconv.Itoa(s.To)
}

// showAll returns what a function makes of the parts of a list.
func showAll[T any](list []T, show func(x T) string) string {
	var texts []string
	for _, x := range list {
		texts = append(texts, show(x))
	}
	return strings.Join(texts, " ")
}

// show returns a unit as a text: flags; macros; items with their kinds and modes; head lines; files.
func show(u api.Unit) string {
	macros := showAll(u.Macros, func(m api.Macro) string {
		return m.Name + "(" + strings.Join(m.Params, ",") + ")" + showSpan(m.Body)
	})
	items := showAll(u.Items, func(i api.Item) string {
		return i.Name + strconv.Itoa(i.Kind) + strconv.Itoa(i.Mode) + "(" + strings.Join(i.Params, ",") + ")" + showSpan(i.Body)
	})
	heads := showAll(u.Heads, showSpan)
	return strings.Join([]string{strings.Join(u.Flags, " "), macros, items, heads, strings.Join(u.Files, " ")}, ";")
}

// many returns n lines with a prefix and a number.
func many(prefix string, n int, suffix string) string {
	return strings.Join(manyLines(prefix, n, suffix), "|")
}

// manyLines returns n lines with a prefix and a number.
func manyLines(prefix string, n int, suffix string) []string {
	lines := make([]string, n)
	for i := range lines {
		lines[i] = prefix + strconv.Itoa(i) + suffix
	}
	return lines
}

// P6.2: units of one file, written out.
func TestScanFile(t *testing.T) {
	for i, x := range []struct {
		text  string
		flags []string
		want  string
	}{
		{"", nil, ";;;a/m:0-1;a/m"},
		{"|", nil, ";;;a/m:0-2;a/m"},
		{"", []string{"y", "x"}, "x y;;;a/m:0-1;a/m"},
		// the example of the chapter
		{"note 1|anything|when big 1|extern f|data d 1|1,2|", nil, ";;d20()a/m:5-6;a/m:0-1 a/m:2-3 a/m:4-5 a/m:6-7;a/m"},
		{"note 1|anything|when big 1|extern f|data d 1|1,2|", []string{"big"}, "big;;f33():0-0 d20()a/m:5-6;a/m:0-1 a/m:2-5 a/m:6-7;a/m"},
		// each word
		{"note 2|fn f 1|???", nil, ";;;a/m:0-1;a/m"},
		{"extern f", nil, ";;f33():0-0;a/m:0-1;a/m"},
		{"fn f 1|x", nil, ";;f10()a/m:1-2;a/m:0-1;a/m"},
		{"export fn f a b 2|x|y|", nil, ";;f11(a,b)a/m:1-3;a/m:0-1 a/m:3-4;a/m"},
		{"weak fn f f 1|x", nil, ";;f12(f)a/m:1-2;a/m:0-1;a/m"},
		{"|data d 1|x", nil, ";;d20()a/m:2-3;a/m:0-2;a/m"},
		{"export data d 1|x", nil, ";;d21()a/m:1-2;a/m:0-1;a/m"},
		{"weak data d 1|x", nil, ";;d22()a/m:1-2;a/m:0-1;a/m"},
		{"define m a 1|x||define k 1|y", nil, ";k()a/m:4-5 m(a)a/m:1-2;;a/m:0-1 a/m:2-4;a/m"},
		// empty bodies, between others and at the end of the file
		{"fn f 0|data d 0|define m a 0|note 0|when x 0|unless x 0", nil, ";m(a)a/m:3-3;f10()a/m:1-1 d20()a/m:2-2;a/m:0-6;a/m"},
		{"fn f 0", nil, ";;f10()a/m:1-1;a/m:0-1;a/m"},
		// bodies that end with the file, the last line of which is empty
		{"fn f 2|x|", nil, ";;f10()a/m:1-3;a/m:0-1;a/m"},
		{"data d 3|x||", nil, ";;d20()a/m:1-4;a/m:0-1;a/m"},
		{"note 1|", nil, ";;;a/m:0-1;a/m"},
		// items and macros can have the same name, and items that of a flag
		{"fn f 0|define f 0", nil, ";f()a/m:2-2;f10()a/m:1-1;a/m:0-2;a/m"},
		{"fn f 0|extern g", []string{"f"}, "f;;f10()a/m:1-1 g33():0-0;a/m:0-2;a/m"},
		// items stand in the order of their heads, macros in that of their names
		{"fn b 0|data a 0|extern c|define z 0|define y 0", nil, ";y()a/m:5-5 z()a/m:4-4;b10()a/m:1-1 a20()a/m:2-2 c33():0-0;a/m:0-5;a/m"},
		// macros are defined from their head on, until they are undefined
		{"when m 1|extern a|define m 0|when m 1|extern b|undef m|when m 1|extern c", nil, ";;b33():0-0;a/m:0-1 a/m:2-7;a/m"},
		{"define m 1|x|undef m|define m a 1|y", nil, ";m(a)a/m:4-5;;a/m:0-1 a/m:2-4;a/m"},
		// flags can be undefined, and defined as a macro then
		{"undef x|when x 1|extern a|unless x 1|extern b", []string{"x", "y"}, "y;;b33():0-0;a/m:0-2 a/m:3-5;a/m"},
		{"undef x|define x 0|when x 1|extern a", []string{"x"}, ";x()a/m:2-2;a33():0-0;a/m:0-4;a/m"},
		// groups in groups
		{"when x 4|when y 1|extern a|unless y 1|extern b|extern c", []string{"x", "y"}, "x y;;a33():0-0 c33():0-0;a/m:0-4 a/m:5-6;a/m"},
		{"when x 4|when y 1|extern a|unless y 1|extern b|extern c", []string{"x"}, "x;;b33():0-0 c33():0-0;a/m:0-2 a/m:3-6;a/m"},
		{"when x 4|when y 1|extern a|unless y 1|extern b|extern c", []string{"y"}, "y;;c33():0-0;a/m:0-1 a/m:5-6;a/m"},
		{"unless x 4|when y 1|extern a|unless y 1|extern b|extern c", []string{"y"}, "y;;a33():0-0 c33():0-0;a/m:0-4 a/m:5-6;a/m"},
		{"unless x 4|when y 1|extern a|unless y 1|extern b|extern c", []string{"x", "y"}, "x y;;c33():0-0;a/m:0-1 a/m:5-6;a/m"},
		{"when x 3|when x 2|when x 1|extern a", []string{"x"}, "x;;a33():0-0;a/m:0-4;a/m"},
		{"when x 3|fn f 2|when x 1|y|extern b", []string{"x"}, "x;;f10()a/m:2-4 b33():0-0;a/m:0-2 a/m:4-5;a/m"},
		// whether a group is read is decided at its head
		{"when x 2|undef x|extern a|unless x 2|define x 0|extern b", []string{"x"}, ";x()a/m:5-5;a33():0-0 b33():0-0;a/m:0-6;a/m"},
		// what is not read can be anything, even what would be an error
		{"when x 3|???|fn f 9|undef z|extern f", nil, ";;f33():0-0;a/m:0-1 a/m:4-5;a/m"},
		{"note 2|include a||extern f", nil, ";;f33():0-0;a/m:0-1 a/m:3-4;a/m"},
	} {
		u, f := Scan(files("a/m", x.text), "a/m", x.flags)
		if f != (api.Fault{}) || u.Path != "a/m" || show(u) != x.want {
			t.Error(i, f, show(u))
		}
	}
}

// P6.2: includes, of the own package and of another one.
func TestScanIncludes(t *testing.T) {
	for i, x := range []struct {
		t    api.Tree
		want string
	}{
		{files("a/m", "include k|extern f", "a/k", "extern g"), ";;g33():0-0 f33():0-0;a/k:0-1 a/m:0-2;a/k a/m"},
		{files("a/m", "include @b/k|extern f", "b/k", "fn g 1|x", "a/k", "?"), ";;g10()b/k:1-2 f33():0-0;a/m:0-2 b/k:0-1;a/m b/k"},
		// the package is that of the file in which the include stands
		{files("a/m", "include @b/d/k", "b/d/k", "include l", "b/l", "extern b", "b/d/l", "?", "a/l", "?"), ";;b33():0-0;a/m:0-1 b/d/k:0-1 b/l:0-1;a/m b/d/k b/l"},
		{files("a/m", "include a/k", "a/a/k", "include k", "a/k", "include @a/x/y", "a/x/y", ""), ";;;a/a/k:0-1 a/k:0-1 a/m:0-1 a/x/y:0-1;a/a/k a/k a/m a/x/y"},
		// a file that is included twice, but is not being read
		{files("a/m", "include k|include k|include l", "a/k", "", "a/l", "include k|", "a/n", ""), ";;;a/k:0-1 a/l:0-2 a/m:0-3;a/k a/l a/m"},
		{files("a/m", "include k|define g 0|include k", "a/k", "unless g 1|extern f|when g 1|extern h"), ";g()a/m:2-2;f33():0-0 h33():0-0;a/k:0-4 a/m:0-3;a/k a/m"},
		{files("a/m", "include k|undef g|include k", "a/k", "define g 1|x"), ";g()a/k:1-2;;a/k:0-1 a/m:0-3;a/k a/m"},
		// macros of an included file are defined behind the include
		{files("a/m", "include k|when g 1|extern f", "a/k", "define g 0"), ";g()a/k:1-1;f33():0-0;a/k:0-1 a/m:0-3;a/k a/m"},
		// an include in a group that is read, and in one that is not
		{files("a/m", "unless x 1|include k|when x 1|include n", "a/k", "extern f"), ";;f33():0-0;a/k:0-1 a/m:0-3;a/k a/m"},
		// an item has the file of its own head
		{files("a/m", "fn f 1|x|include k|fn h 1|y", "a/k", "|fn g a 1|z"), ";;f10()a/m:1-2 g10(a)a/k:2-3 h10()a/m:4-5;a/k:0-2 a/m:0-1 a/m:2-4;a/k a/m"},
	} {
		u, f := Scan(x.t, "a/m", nil)
		if f != (api.Fault{}) || u.Path != "a/m" || show(u) != x.want {
			t.Error(i, f, show(u))
		}
	}
}

// P6.2: the errors in front of all lines.
func TestScanArguments(t *testing.T) {
	good := files("a/m", "", "a/n", strings.Repeat("|", api.MaxLines))
	names := manyLines("x", api.MaxSymbols+1, "")
	for i, x := range []struct {
		t     api.Tree
		path  string
		flags []string
		want  api.Fault
	}{
		{api.Tree{{Path: "A"}}, "a/m", nil, fault(api.ErrArg, "", -1)},
		{files("a/m", "", "a", ""), "a", []string{"let"}, fault(api.ErrArg, "", -1)},
		{good, "a", nil, fault(api.ErrName, "", -1)},
		{good, "", nil, fault(api.ErrName, "", -1)},
		{good, "a/", nil, fault(api.ErrName, "", -1)},
		{good, "/m", nil, fault(api.ErrName, "", -1)},
		{good, "@a/m", nil, fault(api.ErrName, "", -1)},
		{good, "a/M", nil, fault(api.ErrName, "", -1)},
		{good, "1/2/3/4/5/6/7/8/9", nil, fault(api.ErrName, "", -1)},
		{good, "a/m", []string{"let"}, fault(api.ErrName, "", -1)},
		{good, "a/m", []string{"x", ""}, fault(api.ErrName, "", -1)},
		{good, "a/m", []string{"x", "x", "1"}, fault(api.ErrName, "", -1)},
		{good, "a/x", []string{"x", "x"}, fault(api.ErrTwice, "", -1)},
		{good, "a/m", append([]string{"x0"}, names...), fault(api.ErrTwice, "", -1)},
		{good, "a/x", names, fault(api.ErrTooLarge, "", -1)},
		{good, "a/x", names[1:], fault(api.ErrNotFound, "a/x", -1)},
		{nil, "a/m", nil, fault(api.ErrNotFound, "a/m", -1)},
		{good, "a/m/x", nil, fault(api.ErrNotFound, "a/m/x", -1)},
		{good, "a/n", nil, fault(api.ErrTooLarge, "a/n", -1)},
		{good, "a/m", names[1:], api.Fault{}},
	} {
		u, f := Scan(x.t, x.path, x.flags)
		if f != x.want || f.Error != api.OK && (u.Path != "" || show(u) != ";;;;") {
			t.Error(i, f, show(u))
		}
		if f.Error == api.OK && (len(u.Flags) != len(x.flags) || !slices.IsSorted(u.Flags)) {
			t.Error(i, u.Flags)
		}
	}
}

// P6.2: the first line with an error, and its first error.
func TestScanErrors(t *testing.T) {
	for i, x := range []struct {
		t     api.Tree
		flags string
		e     api.Errno
		path  string
		n     int
	}{
		// the errors of Parse
		{files("a/m", "?"), "", api.ErrSyntax, "a/m", 0},
		{files("a/m", "|note 1|?|fn let 9"), "", api.ErrName, "a/m", 3},
		{files("a/m", "fn f a a 9"), "", api.ErrTwice, "a/m", 0},
		{files("a/m", "fn f "+strings.Join(names(9), " ")+" 9"), "", api.ErrTooLarge, "a/m", 0},
		{files("a/m", "|note 1025"), "", api.ErrRange, "a/m", 1},
		{files("a/m", "extern f|include k", "a/k", "|extern ?"), "", api.ErrName, "a/k", 1},
		// bodies that are longer than the file, or than their group, even if the group is longer than what it stands in
		{files("a/m", "note 1"), "", api.ErrShort, "a/m", 0},
		{files("a/m", "|fn f 3|x|"), "", api.ErrShort, "a/m", 1},
		{files("a/m", "|data d 1024"), "", api.ErrShort, "a/m", 1},
		{files("a/m", "define m 1"), "m", api.ErrShort, "a/m", 0},
		{files("a/m", "when x 1"), "", api.ErrShort, "a/m", 0},
		{files("a/m", "unless x 2|"), "x", api.ErrShort, "a/m", 0},
		{files("a/m", "unless x 2|fn f 2|y||"), "", api.ErrShort, "a/m", 1},
		{files("a/m", "unless x 2|unless x 2|||"), "", api.ErrShort, "a/m", 1},
		{files("a/m", "unless x 2|when x 2|||"), "", api.ErrShort, "a/m", 1},
		{files("a/m", "unless x 3|unless x 1|note 1||"), "", api.ErrShort, "a/m", 2},
		{files("a/m", "include k||", "a/k", "note 1"), "", api.ErrShort, "a/k", 0},
		// includes
		{files("a/m", "include 1/2/3/4/5/6/7/8"), "", api.ErrName, "a/m", 0},
		{files("a/m", "include m"), "", api.ErrLoop, "a/m", 0},
		{files("a/m", "|include @a/m"), "", api.ErrLoop, "a/m", 1},
		{files("a/m", "unless x 1|include m"), "", api.ErrLoop, "a/m", 1},
		{files("a/m", "include k", "a/k", "|unless x 1|include m"), "", api.ErrLoop, "a/k", 2},
		{files("a/m", "include k", "a/k", "include @b/l", "b/l", "include @a/k"), "", api.ErrLoop, "b/l", 0},
		{files("a/m", "include k"), "", api.ErrNotFound, "a/m", 0},
		{files("a/m", "include k", "b/k", ""), "", api.ErrNotFound, "a/m", 0},
		{files("a/m", "include @b/k", "a/b/k", ""), "", api.ErrNotFound, "a/m", 0},
		{files("a/m", "include d", "a/d/k", ""), "", api.ErrNotFound, "a/m", 0},
		{files("a/m", "|include k", "a/k", strings.Repeat("|", api.MaxLines)), "", api.ErrTooLarge, "a/m", 1},
		// names that are defined, or are not
		{files("a/m", "define x 0"), "x", api.ErrTwice, "a/m", 0},
		{files("a/m", "define x 0|define x a 0"), "", api.ErrTwice, "a/m", 1},
		{files("a/m", "define x 0|include k", "a/k", "|define x 0"), "", api.ErrTwice, "a/k", 1},
		{files("a/m", "undef x"), "", api.ErrNotFound, "a/m", 0},
		{files("a/m", "undef x|undef x"), "x", api.ErrNotFound, "a/m", 1},
		{files("a/m", "define x 0|undef x|undef x"), "", api.ErrNotFound, "a/m", 2},
		{files("a/m", "undef x|define x 0|undef x|undef x"), "x", api.ErrNotFound, "a/m", 3},
		{files("a/m", "fn x 0|undef x"), "", api.ErrNotFound, "a/m", 1},
		// items with one name
		{files("a/m", "extern f|extern f"), "", api.ErrTwice, "a/m", 1},
		{files("a/m", "fn f 0|data f 0"), "", api.ErrTwice, "a/m", 1},
		{files("a/m", "extern f|export fn f 0"), "", api.ErrTwice, "a/m", 1},
		{files("a/m", "weak fn f 0|fn f 0"), "", api.ErrTwice, "a/m", 1},
		{files("a/m", "data f 0|extern f"), "", api.ErrTwice, "a/m", 1},
		{files("a/m", "include k|include k", "a/k", "|extern f"), "", api.ErrTwice, "a/k", 1},
		// the first line with an error, and of its errors the first one
		{files("a/m", "fn f 9|?"), "", api.ErrShort, "a/m", 0},
		{files("a/m", "fn f 0|fn f 1"), "", api.ErrShort, "a/m", 1},
		{files("a/m", "define x 1"), "x", api.ErrShort, "a/m", 0},
		{files("a/m", "include k|?", "a/k", "?"), "", api.ErrSyntax, "a/k", 0},
		{files("a/m", "extern f|extern f|?"), "", api.ErrTwice, "a/m", 1},
	} {
		u, f := Scan(x.t, "a/m", strings.Fields(x.flags))
		if f != fault(x.e, x.path, x.n) || u.Path != "" || show(u) != ";;;;" {
			t.Error(i, f, show(u))
		}
	}
	if f := fault(api.ErrLoop, "a/m", 7); f != (api.Fault{Error: api.ErrLoop, Package: -1, Step: -1, At: api.Line{Path: "a/m", N: 7}}) {
		t.Error(f)
	}
}

// nested returns n groups, each in the one before, with a line in the last one.
func nested(n int, line string) string {
	text := ""
	for i := range n {
		text += "unless x " + strconv.Itoa(n-i) + "|"
	}
	return text + line
}

// chained returns a file a/f0, with a text in front, that includes another one, and so on, n times in all; the last one has a text.
func chained(front string, n int, last string) []string {
	var parts []string
	for i := range n {
		parts = append(parts, "a/f"+strconv.Itoa(i), front+"include f"+strconv.Itoa(i+1))
		front = ""
	}
	return append(parts, "a/f"+strconv.Itoa(n), last)
}

// P6.2: groups and includes can be MaxDepth deep.
func TestDepth(t *testing.T) {
	for i, x := range []struct {
		t    api.Tree
		want api.Fault
	}{
		{files("a/f0", nested(api.MaxDepth, "extern f")), api.Fault{}},
		{files("a/f0", nested(api.MaxDepth, "when x 0")), api.Fault{}},
		{files("a/f0", nested(api.MaxDepth, "unless x 0")), fault(api.ErrDeep, "a/f0", api.MaxDepth)},
		{files("a/f0", nested(api.MaxDepth+1, "")), fault(api.ErrDeep, "a/f0", api.MaxDepth)},
		{files("a/f0", nested(api.MaxDepth, "fn f 0|unless x 0")), api.Fault{}},
		{files(chained("", api.MaxDepth, "extern f")...), api.Fault{}},
		{files(chained("", api.MaxDepth, "when x 0")...), api.Fault{}},
		{files(chained("", api.MaxDepth, "unless x 0")...), fault(api.ErrDeep, "a/f24", 0)},
		{files(chained("", api.MaxDepth+1, "")...), fault(api.ErrDeep, "a/f24", 0)},
		{files(chained("", api.MaxDepth, "|include g")...), fault(api.ErrNotFound, "a/f24", 1)},
		{files(append(chained("", api.MaxDepth, "|include g"), "a/g", strings.Repeat("|", api.MaxLines))...), fault(api.ErrTooLarge, "a/f24", 1)},
		{files(chained("", api.MaxDepth, "|include f3")...), fault(api.ErrLoop, "a/f24", 1)},
		{files(chained("", api.MaxDepth, "|include 1/2/3/4/5/6/7/8")...), fault(api.ErrName, "a/f24", 1)},
		{files(chained(nested(14, ""), 10, "extern f")...), api.Fault{}},
		{files(chained(nested(14, ""), 10, "|unless x 1|")...), fault(api.ErrDeep, "a/f10", 1)},
		{files(chained(nested(14, ""), 11, "")...), fault(api.ErrDeep, "a/f10", 0)},
		// what has been read before does not make the next one deeper
		{files(append(chained("unless x 1||include g|", api.MaxDepth, "extern f"), "a/g", nested(api.MaxDepth-1, ""))...), api.Fault{}},
	} {
		if _, f := Scan(x.t, "a/f0", nil); f != x.want {
			t.Error(i, f)
		}
	}
}

// P6.2: MaxHeads lines can be read, each as often as it is read.
func TestManyHeads(t *testing.T) {
	full := strings.Repeat("|", api.MaxLines-1)
	for i, x := range []struct {
		t    api.Tree
		want api.Fault
	}{
		{files("a/m", "include k|include k"+strings.Repeat("|", 2), "a/k", strings.Repeat("|", api.MaxLines-3)), api.Fault{}},
		{files("a/m", "include k|include k"+strings.Repeat("|", 3), "a/k", strings.Repeat("|", api.MaxLines-3)), fault(api.ErrTooLarge, "a/m", 4)},
		{files("a/m", "include k|include l", "a/k", full, "a/l", full), fault(api.ErrTooLarge, "a/l", api.MaxLines-2)},
		{files("a/m", "include k|include l|", "a/k", full, "a/l", strings.Repeat("|", api.MaxLines-4)), api.Fault{}},
		// before an error of Parse, and before what belongs to a line
		{files("a/m", "include k|include l|?", "a/k", full, "a/l", strings.Repeat("|", api.MaxLines-3)), fault(api.ErrTooLarge, "a/m", 2)},
		{files("a/m", "include k|include l|note 1", "a/k", full, "a/l", strings.Repeat("|", api.MaxLines-3)), fault(api.ErrTooLarge, "a/m", 2)},
		{files("a/m", "include k|include l|?", "a/k", full, "a/l", strings.Repeat("|", api.MaxLines-4)), fault(api.ErrSyntax, "a/m", 2)},
		// lines that are not read do not count
		{files("a/m", "include k|include k|include k|include k", "a/k", "note 1023"+full), api.Fault{}},
	} {
		if _, f := Scan(x.t, "a/m", nil); f != x.want {
			t.Error(i, f)
		}
	}
	// files that include the next one twice would be read 2^20 times
	var parts []string
	for i := range 20 {
		parts = append(parts, "a/f"+strconv.Itoa(i), strings.Repeat("include f"+strconv.Itoa(i+1)+"|", 2))
	}
	if _, f := Scan(files(append(parts, "a/f20", "")...), "a/f0", nil); f.Error != api.ErrTooLarge {
		t.Error(f)
	}
}

// P6.2: MaxSymbols macros and items.
func TestManySymbols(t *testing.T) {
	most := api.MaxSymbols
	for i, x := range []struct {
		text  string
		flags []string
		want  api.Fault
	}{
		{many("define m", most, " 0"), nil, api.Fault{}},
		{many("define m", most+1, " 0"), nil, fault(api.ErrTooLarge, "a/m", most)},
		{many("define m", most, " 0") + "|define m0 0", nil, fault(api.ErrTwice, "a/m", most)},
		{many("define m", most, " 0") + "|undef m5|define z 0", nil, api.Fault{}},
		// flags are not macros
		{many("define m", most, " 0"), manyLines("f", most, ""), api.Fault{}},
		{many("define m", most, " 0") + "|undef f5|define f5 0", manyLines("f", most, ""), fault(api.ErrTooLarge, "a/m", most+1)},
		{many("extern f", most, ""), nil, api.Fault{}},
		{many("extern f", most+1, ""), nil, fault(api.ErrTooLarge, "a/m", most)},
		{many("fn f", most, " 0") + "|extern f0", nil, fault(api.ErrTwice, "a/m", most)},
		{many("fn f", most, " 0") + "|extern g", nil, fault(api.ErrTooLarge, "a/m", most)},
		{many("fn f", most, " 0") + "|data g 0", nil, fault(api.ErrTooLarge, "a/m", most)},
		{many("data f", most, " 0") + "|weak fn g 0", nil, fault(api.ErrTooLarge, "a/m", most)},
		{many("data f", most-1, " 0") + "|weak fn g 0|" + many("define m", most, " 0"), nil, api.Fault{}},
	} {
		if _, f := Scan(files("a/m", x.text), "a/m", x.flags); f != x.want {
			t.Error(i, f)
		}
	}
}

// P6.2: the first item with a name is found.
func TestFind(t *testing.T) {
	u := api.Unit{Items: []api.Item{
		{Name: "f", Kind: api.ItemFn, Params: []string{"a", "b"}, Body: api.Span{Path: "a/m", From: 1, To: 2}},
		{Name: "g", Kind: api.ItemExtern, Mode: api.Extern},
		{Name: "f", Kind: api.ItemData},
		{Name: ""},
	}}
	for _, x := range []struct {
		name string
		at   int
	}{{"f", 0}, {"g", 1}, {"", 3}, {"h", -1}, {"F", -1}, {"ff", -1}} {
		item, found := Find(u, x.name)
		want := api.Item{}
		if x.at >= 0 {
			want = u.Items[x.at]
		}
		if found != (x.at >= 0) || show(api.Unit{Items: []api.Item{item}}) != show(api.Unit{Items: []api.Item{want}}) {
			t.Error(x.name, item, found)
		}
	}
	if item, found := Find(api.Unit{}, ""); found || item.Name != "" {
		t.Error(item, found)
	}
}
