package recipe

import (
	"fmt"
	"slices"
	"strings"
	"testing"

	"licit/api"
)

// list is a list of words.
type list = []string

// equal says whether two lists of steps are the same; nil and empty lists are.
func equal(a, b []api.Step) bool {
	return slices.EqualFunc(a, b, func(x, y api.Step) bool {
		return x.Line == y.Line && x.Kind == y.Kind && x.Out == y.Out && slices.Equal(x.In, y.In) && slices.Equal(x.Using, y.Using) && slices.Equal(x.Words, y.Words)
	})
}

// parsed returns the steps of a recipe, which must have some.
func parsed(t *testing.T, text string) []api.Step {
	t.Helper()
	l, n, e := Parse(text)
	if e != api.OK || n != -1 {
		t.Fatalf("%q %d %v", text, n, e)
	}
	return l
}

// P14.1, P14.2: the step of each row of the table, with as few words as it can have, and with more.
func TestRows(t *testing.T) {
	for _, x := range []struct {
		line string
		step api.Step
	}{
		{"compile a.src to a.o", api.Step{Kind: api.StepCompile, In: list{"a.src"}, Out: "a.o"}},
		{"compile a.src to a.o with x", api.Step{Kind: api.StepCompile, In: list{"a.src"}, Words: list{"x"}, Out: "a.o"}},
		{"compile a.src to a.o with x y", api.Step{Kind: api.StepCompile, In: list{"a.src"}, Words: list{"x", "y"}, Out: "a.o"}},
		{"compile @lib/a.src to x/a.o with y x", api.Step{Kind: api.StepCompile, In: list{"@lib/a.src"}, Words: list{"y", "x"}, Out: "x/a.o"}},
		{"archive a.o to l.a", api.Step{Kind: api.StepArchive, In: list{"a.o"}, Out: "l.a"}},
		{"archive a.o @x/b.o a.o to l.a", api.Step{Kind: api.StepArchive, In: list{"a.o", "@x/b.o", "a.o"}, Out: "l.a"}},
		{"share a.o to l.so", api.Step{Kind: api.StepShare, In: list{"a.o"}, Out: "l.so"}},
		{"share a.o b.o to l.so", api.Step{Kind: api.StepShare, In: list{"a.o", "b.o"}, Out: "l.so"}},
		{"link main a.o to bin", api.Step{Kind: api.StepLink, In: list{"a.o"}, Words: list{"main"}, Out: "bin"}},
		{"link main main b.o c.o to bin", api.Step{Kind: api.StepLink, In: list{"main", "b.o", "c.o"}, Words: list{"main"}, Out: "bin"}},
		{"link main a.o using @lib/l.a to bin", api.Step{Kind: api.StepLink, In: list{"a.o"}, Using: list{"@lib/l.a"}, Words: list{"main"}, Out: "bin"}},
		{"link f a.o b.o using c d to bin", api.Step{Kind: api.StepLink, In: list{"a.o", "b.o"}, Using: list{"c", "d"}, Words: list{"f"}, Out: "bin"}},
		{"run bin on x to y", api.Step{Kind: api.StepRun, In: list{"bin", "x"}, Out: "y"}},
		{"run bin using l on x to y", api.Step{Kind: api.StepRun, In: list{"bin", "x"}, Using: list{"l"}, Out: "y"}},
		{"run @a/bin using l @m/n l on @a/x to y", api.Step{Kind: api.StepRun, In: list{"@a/bin", "@a/x"}, Using: list{"l", "@m/n", "l"}, Out: "y"}},
		{"patch a with @b/p to c", api.Step{Kind: api.StepPatch, In: list{"a", "@b/p"}, Out: "c"}},
		{"copy @a/b to c", api.Step{Kind: api.StepCopy, In: list{"@a/b"}, Out: "c"}},
		{"install a as o/b", api.Step{Kind: api.StepInstall, In: list{"a"}, Out: "o/b"}},
		// words of steps and keywords that are names of files, or not
		{"compile compile to compile with compile copy", api.Step{Kind: api.StepCompile, In: list{"compile"}, Words: list{"compile", "copy"}, Out: "compile"}},
		{"copy let to in", api.Step{Kind: api.StepCopy, In: list{"let"}, Out: "in"}},
		{"copy to.x to x/to", api.Step{Kind: api.StepCopy, In: list{"to.x"}, Out: "x/to"}},
		{"link using2 w using @on/to to as/on", api.Step{Kind: api.StepLink, In: list{"w"}, Using: list{"@on/to"}, Words: list{"using2"}, Out: "as/on"}},
		// paths of 8 parts, and references to as many
		{"copy a/b/c/d/e/f/g/h to 1/2/3/4/5/6/7/8", api.Step{Kind: api.StepCopy, In: list{"a/b/c/d/e/f/g/h"}, Out: "1/2/3/4/5/6/7/8"}},
		{"copy @a/b/c/d/e/f/g/h to c", api.Step{Kind: api.StepCopy, In: list{"@a/b/c/d/e/f/g/h"}, Out: "c"}},
	} {
		for n := range 3 {
			x.step.Line = n
			text := strings.Repeat("\n", n) + x.line
			if l, k, e := Parse(text); e != api.OK || k != -1 || !equal(l, []api.Step{x.step}) {
				t.Errorf("%q %d %v %+v", text, k, e, l)
			}
			if s, e := Print([]api.Step{x.step}); e != api.OK || s != text {
				t.Errorf("%q %q %v", text, s, e)
			}
			if e := Check(x.step); e != api.OK {
				t.Errorf("%q %v", text, e)
			}
		}
	}
}

// P14.1: the first error of a line.
func TestLineErrors(t *testing.T) {
	for _, x := range []struct {
		e     api.Errno
		lines []string
	}{
		{api.ErrSyntax, []string{
			// the examples of the chapter
			"copy a to", "copy to to b",
			// no step
			"a", "to", "Copy a to b", "copies a to b", "with a to b", "REF", "IN", "..", "a copy b to c", "@copy a to b", "copy\ta to b",
			// an empty word, a blank at the beginning and the end
			"copy  a to b", "copy a  to b", "copy a to  b", " copy a to b", "copy a to b ", " ", "  ", "compile a to b with ", "compile a to b with  x",
			// a word less, and a word more
			"compile", "compile a", "compile a to", "compile to b", "compile a b", "compile a b to c", "compile a to b c", "compile a to b with", "compile a to with x", "compile to b with x", "compile a to b x y", "compile a with x to b", "compile a to b c with x",
			"archive", "archive a", "archive a b", "archive a to", "archive to b", "archive a to b c", "archive a b to", "archive a to b to c", "archive",
			"share", "share a", "share a to", "share to b", "share a to b c", "share a b",
			"link", "link main", "link main a", "link main a to", "link main to b", "link to b", "link main a to b c", "link main a b", "link main using l to b", "link main a using to b", "link main a using l to", "link main a using l", "link using l to b", "link main a using l to b c", "link main a using l using m to b", "link main a to b using l",
			"run", "run a", "run a on b", "run a on b to", "run a on to c", "run on b to c", "run a b to c", "run a to c", "run a b on b to c", "run a on b c to d", "run a on b to c d", "run a using on b to c", "run a using l on to c", "run a using l on b to", "run a using l to c", "run using l on b to c", "run a b using l on b to c", "run a using l on b c to d", "run a using l on b to c d", "run a on b using l to c", "run a using l using m on b to c",
			"patch", "patch a", "patch a with b", "patch a with b to", "patch a with to c", "patch with b to c", "patch a b to c", "patch a b with c to d", "patch a with b c to d", "patch a with b to c d", "patch a to c",
			"copy", "copy a", "copy a b", "copy to b", "copy a to b c", "copy a b to c", "copy a as b",
			"install", "install a", "install a as", "install as b", "install a as b c", "install a b as c", "install a to b",
			// separators at the place of a name
			"compile to to b", "compile a to to", "compile a to with", "compile a to with with x", "compile a to b with to", "compile a to b with x as", "compile a to b with on y",
			"archive on to b", "archive a using to b", "archive a to as", "link to a to b", "link as a to b", "link main with to b", "link main a using as to b", "link main a to using", "run on on b to c", "run a on as to c", "run a using to on b to c", "patch a with with to b", "copy using to b", "copy a to on", "install as as b", "install a as with",
			// errors that would be found otherwise
			"copy A to", "copy A  to b", "compile a to B with x x ", "compile a to b with X X as", "archive A B",
		}},
		{api.ErrName, []string{
			"copy A to b", "copy a to B", "copy A to B", "copy a to @b/c", "copy @a to b", "copy @a/ to b", "copy @@a/b to c", "copy a@ to b", "copy a/ to b", "copy /a to b", "copy a//b to c", "copy .a to b", "copy ../a to b", "copy a\tb to c", "copy a to b\r", "copy a to ü", "copy a to \x00",
			"copy " + strings.Repeat("x", api.MaxName+1) + " to a", "copy 1/2/3/4/5/6/7/8/9 to a", "copy @1/2/3/4/5/6/7/8/9 to a", "copy a to 1/2/3/4/5/6/7/8/9",
			"compile A to b", "compile a to @b/c", "compile a to b with X", "compile a to b with 1", "compile a to b with x y-z", "compile a to b with let", "compile a to b with x if", "compile a to b with in", "compile a to b with a.b", "compile a to b with @x/y", "compile a to b with " + strings.Repeat("x", api.MaxName+1),
			"archive a B to c", "archive a b to C", "archive a b @c to d", "archive A b to c",
			"share a b to @c/d", "share a B to c",
			"link let a to b", "link 1 a to b", "link Main a to b", "link a.o a to b", "link @a/b c to d", "link main A to b", "link main a to @b/c", "link main a using B to c", "link main a using b C to d", "link main @a using b to c",
			"run A on b to c", "run a on B to c", "run a on b to C", "run a using B on c to d", "run a using b C on c to d", "run a using b on @c to d",
			"patch A with b to c", "patch a with @b to c", "patch a with b to .c", "install A as b", "install a as @b/c", "install a as B",
			// before a flag that is there twice
			"compile A to b with x x", "compile a to B with x x", "compile a to b with x x Y", "compile a to b with X X",
		}},
		{api.ErrTwice, []string{"compile a to b with x x", "compile a to b with x y x", "compile a to b with z y x y"}},
	} {
		for _, line := range x.lines {
			for _, n := range []int{0, 1, 5} {
				text := strings.Repeat("\n", n) + line + "\n\n?"
				if l, k, e := Parse(text); e != x.e || k != n || len(l) != 0 {
					t.Errorf("%q %d %v %+v", text, k, e, l)
				}
				text = "copy a to b\n" + strings.Repeat("\n", n) + line
				if l, k, e := Parse(text); e != x.e || k != n+1 || len(l) != 0 {
					t.Errorf("%q %d %v %+v", text, k, e, l)
				}
			}
		}
	}
}

// steps returns n steps in lines that are some lines apart.
func steps(n, apart int) []api.Step {
	var l []api.Step
	for i := range n {
		l = append(l, api.Step{Line: i * apart, Kind: api.StepCopy, In: list{"a"}, Out: fmt.Sprint("b", i)})
	}
	return l
}

// P14.1: texts with empty lines, MaxFiles steps, MaxLines lines and MaxData bytes, and one more of each.
func TestParseSizes(t *testing.T) {
	step := "copy a to b"
	lines := func(n int, line string) string { return strings.Repeat(line+"\n", n-1) + line }
	long := "compile a to b with" // flags that fill up a text
	for n := 0; len(long) < api.MaxData-20; n++ {
		long += fmt.Sprintf(" x%08d", n)
	}
	full := long + " " + strings.Repeat("y", api.MaxData-len(long)-1)
	for i, x := range []struct {
		text string
		size int
		n    int
		e    api.Errno
	}{
		{"", 0, -1, api.OK}, {"\n", 0, -1, api.OK}, {"\n\n\n", 0, -1, api.OK}, {step, 1, -1, api.OK}, {step + "\n", 1, -1, api.OK}, {"\n\n" + step + "\n\n\n" + step + "\n\n", 2, -1, api.OK},
		{lines(api.MaxFiles, step), api.MaxFiles, -1, api.OK},
		{lines(api.MaxFiles, "\n"+step+"\n"), api.MaxFiles, -1, api.OK},
		{lines(api.MaxFiles+1, step), 0, api.MaxFiles, api.ErrTooLarge},
		{lines(api.MaxFiles, step) + "\n\n\n" + step, 0, api.MaxFiles + 2, api.ErrTooLarge},
		// the errors of the line come first, and lines behind it are not looked at
		{lines(api.MaxFiles, step) + "\ncopy a", 0, api.MaxFiles, api.ErrSyntax},
		{lines(api.MaxFiles, step) + "\ncopy a to B", 0, api.MaxFiles, api.ErrName},
		{lines(api.MaxFiles, step) + "\ncompile a to b with x x", 0, api.MaxFiles, api.ErrTwice},
		{lines(api.MaxFiles, step) + "\n" + step + "\n?", 0, api.MaxFiles, api.ErrTooLarge},
		{lines(api.MaxFiles, step) + "\n", api.MaxFiles, -1, api.OK},
		// texts
		{strings.Repeat("\n", api.MaxLines-1), 0, -1, api.OK},
		{strings.Repeat("\n", api.MaxLines), 0, -1, api.ErrTooLarge},
		{strings.Repeat("\n", api.MaxLines-1) + step, 1, -1, api.OK},
		{strings.Repeat("\n", api.MaxLines) + step, 0, -1, api.ErrTooLarge},
		{"?" + strings.Repeat("\n", api.MaxLines), 0, -1, api.ErrTooLarge},
		{full, 1, -1, api.OK},
		{full + "\n", 0, -1, api.ErrTooLarge},
		{full + "y", 0, -1, api.ErrTooLarge},
		{strings.Repeat(" ", api.MaxData), 0, 0, api.ErrSyntax},
		{strings.Repeat(" ", api.MaxData+1), 0, -1, api.ErrTooLarge},
	} {
		l, n, e := Parse(x.text)
		if len(l) != x.size || n != x.n || e != x.e {
			t.Error(i, len(l), n, e)
		}
		if x.e == api.OK && x.size > 0 && l[0].Line != strings.IndexFunc(x.text, func(c rune) bool { return c != '\n' }) {
			t.Error(i, l[0].Line)
		}
	}
	if l := parsed(t, full); len(l[0].Words) < 5000 || len(l[0].Words[5000]) != 9 {
		t.Error(len(l[0].Words))
	}
	l := parsed(t, "\n\ncopy a to b\n\ninstall a as b\ncopy c to d\n\n")
	if len(l) != 3 || l[0].Line != 2 || l[1].Line != 4 || l[2].Line != 5 {
		t.Error(l)
	}
}

// P14.1: a step is not valid if its lists or its line are not those of some words; Print says so, too.
func TestCheck(t *testing.T) {
	good := func(kind int) api.Step {
		s := api.Step{Kind: kind, In: list{"a"}, Out: "b"}
		switch kind {
		case api.StepLink:
			s.Words = list{"main"}
		case api.StepRun, api.StepPatch:
			s.In = list{"a", "c"}
		}
		return s
	}
	for kind := api.StepCompile; kind <= api.StepInstall; kind++ {
		many := kind == api.StepArchive || kind == api.StepShare || kind == api.StepLink
		two := kind == api.StepRun || kind == api.StepPatch
		uses := kind == api.StepLink || kind == api.StepRun
		for i, x := range []struct {
			change func(s *api.Step)
			valid  bool
		}{
			{func(s *api.Step) {}, true},
			{func(s *api.Step) { s.Using, s.Words = append(list{}, s.Using...), append(list{}, s.Words...) }, true},
			{func(s *api.Step) { s.Line = api.MaxLines - 1 }, true},
			{func(s *api.Step) { s.Line = api.MaxLines }, false},
			{func(s *api.Step) { s.Line = -1 }, false},
			{func(s *api.Step) { s.Line = 1<<63 - 1 }, false},
			{func(s *api.Step) { s.Line = -1 << 63 }, false},
			{func(s *api.Step) { s.Kind = 0 }, false},
			{func(s *api.Step) { s.Kind = 9 }, false},
			{func(s *api.Step) { s.Kind = -1 }, false},
			{func(s *api.Step) { s.In = nil }, false},
			{func(s *api.Step) { s.In = list{} }, false},
			{func(s *api.Step) { s.In = s.In[:1] }, !two},
			{func(s *api.Step) { s.In = list{"a", "c"} }, many || two},
			{func(s *api.Step) { s.In = list{"a", "a"} }, many || two},
			{func(s *api.Step) { s.In = list{"a", "c", "d"} }, many},
			{func(s *api.Step) { s.In[0] = "@a/b" }, true},
			{func(s *api.Step) { s.In[0] = "@a" }, false},
			{func(s *api.Step) { s.In[0] = "A" }, false},
			{func(s *api.Step) { s.In[0] = "" }, false},
			{func(s *api.Step) { s.In[0] = "to" }, false},
			{func(s *api.Step) { s.In[0] = "with" }, false},
			{func(s *api.Step) { s.In[0] = "as" }, false},
			{func(s *api.Step) { s.In[0] = "a b" }, false},
			{func(s *api.Step) { s.In[0] = "a to b" }, false},
			{func(s *api.Step) { s.In[0] = "a " }, false},
			{func(s *api.Step) { s.In[0] = "a\n" }, false},
			{func(s *api.Step) { s.In[len(s.In)-1] = "using" }, false},
			{func(s *api.Step) { s.In[len(s.In)-1] = "x on y" }, false},
			{func(s *api.Step) { s.In = append(s.In, "") }, false},
			{func(s *api.Step) { s.In[0] = "IN" }, false},
			{func(s *api.Step) { s.Using = list{"u"} }, uses},
			{func(s *api.Step) { s.Using = list{"u", "@v/w", "u"} }, uses},
			{func(s *api.Step) { s.Using = list{"@v"} }, false},
			{func(s *api.Step) { s.Using = list{""} }, false},
			{func(s *api.Step) { s.Using = list{"on"} }, false},
			{func(s *api.Step) { s.Using = list{"u v"} }, false},
			{func(s *api.Step) { s.Words = nil }, kind != api.StepLink},
			{func(s *api.Step) { s.Words = list{"x"} }, kind == api.StepCompile || kind == api.StepLink},
			{func(s *api.Step) { s.Words = list{"x", "y"} }, kind == api.StepCompile},
			{func(s *api.Step) { s.Words = list{"x", "x"} }, false},
			{func(s *api.Step) { s.Words = list{"x y"} }, false},
			{func(s *api.Step) { s.Words = list{"let"} }, false},
			{func(s *api.Step) { s.Words = list{"to"} }, false},
			{func(s *api.Step) { s.Words = list{"with"} }, false},
			{func(s *api.Step) { s.Words = list{"1"} }, false},
			{func(s *api.Step) { s.Words = list{""} }, false},
			{func(s *api.Step) { s.Words = list{"x", ""} }, false},
			{func(s *api.Step) { s.Out = "" }, false},
			{func(s *api.Step) { s.Out = "@a/b" }, false},
			{func(s *api.Step) { s.Out = "a/b" }, true},
			{func(s *api.Step) { s.Out = "to" }, false},
			{func(s *api.Step) { s.Out = "on" }, false},
			{func(s *api.Step) { s.Out = "b c" }, false},
			{func(s *api.Step) { s.Out = "b with x" }, false},
			{func(s *api.Step) { s.Out, s.Words = "b with x", list{"x"} }, false},
			{func(s *api.Step) { s.Out = "b\n" }, false},
			{func(s *api.Step) { s.Out = "OUT" }, false},
		} {
			s := good(kind)
			x.change(&s)
			before := fmt.Sprintf("%+v", s)
			want := api.ErrArg
			if x.valid {
				want = api.OK
			}
			if e := Check(s); e != want {
				t.Error(kind, i, e)
			}
			text, e := Print([]api.Step{s})
			if e != want || (text != "") != x.valid {
				t.Errorf("%d %d %q %v", kind, i, text, e)
			}
			if x.valid && !equal(parsed(t, text), []api.Step{s}) {
				t.Errorf("%d %d %q", kind, i, text)
			}
			if fmt.Sprintf("%+v", s) != before {
				t.Error(kind, i, s)
			}
		}
	}
	if e := Check(api.Step{}); e != api.ErrArg {
		t.Error(e)
	}
}

// P14.2: the text of a list of steps; lists that are not valid, and those whose text is too large.
func TestPrint(t *testing.T) {
	at := func(lines ...int) []api.Step {
		l := steps(len(lines), 1)
		for i, n := range lines {
			l[i].Line = n
		}
		return l
	}
	const copy0, copy1 = "copy a to b0", "copy a to b1"
	for _, x := range []struct {
		l    []api.Step
		text string
		e    api.Errno
	}{
		{nil, "", api.OK}, {[]api.Step{}, "", api.OK},
		{at(0), copy0, api.OK}, {at(3), "\n\n\n" + copy0, api.OK}, {at(0, 1), copy0 + "\n" + copy1, api.OK}, {at(2, 5), "\n\n" + copy0 + "\n\n\n" + copy1, api.OK},
		{at(0, 1023), copy0 + strings.Repeat("\n", 1023) + copy1, api.OK}, {at(1023), strings.Repeat("\n", 1023) + copy0, api.OK},
		// Lines that do not rise, or are none
		{at(0, 0), "", api.ErrArg}, {at(1, 0), "", api.ErrArg}, {at(5, 5), "", api.ErrArg}, {at(5, 4), "", api.ErrArg}, {at(0, 2, 1), "", api.ErrArg}, {at(0, 2, 2), "", api.ErrArg}, {at(-1, 0), "", api.ErrArg}, {at(0, -1), "", api.ErrArg}, {at(0, 1024), "", api.ErrArg}, {at(1024), "", api.ErrArg},
		{append(at(0), api.Step{Line: 1}), "", api.ErrArg}, {append(at(0), api.Step{Line: 1, Kind: api.StepCopy, Out: "b"}), "", api.ErrArg},
		{steps(api.MaxFiles+1, 1), "", api.ErrArg}, {steps(api.MaxFiles+1, 15), "", api.ErrArg},
	} {
		if text, e := Print(x.l); text != x.text || e != x.e {
			t.Errorf("%+v %q %v", x.l, text, e)
		}
	}
	for _, apart := range []int{1, 2, 16} {
		l := steps(api.MaxFiles, apart)
		text, e := Print(l)
		if e != api.OK || strings.Count(text, "\n") != (api.MaxFiles-1)*apart || !equal(parsed(t, text), l) {
			t.Error(apart, e, text)
		}
	}
	// a step that fills up a text, and a byte more: by its words, and by the lines in front of it
	for _, words := range []int{8189, 8190, 8191, 8192, 100000} {
		for n := range 9 {
			s := api.Step{Kind: api.StepArchive, Line: n, Out: "b12345"}
			for i := range words {
				s.In = append(s.In, fmt.Sprintf("x%06d", i))
			}
			size := n + len("archive") + 8*words + len(" to b12345")
			text, e := Print([]api.Step{s})
			if (e == api.OK) != (size <= api.MaxData) || e != api.OK && (e != api.ErrTooLarge || text != "") || e == api.OK && len(text) != size {
				t.Error(words, n, e, len(text))
			}
			if e := Check(s); e != api.OK {
				t.Error(words, e)
			}
			// a list that is not valid is found first
			if _, e := Print([]api.Step{s, {Line: 9}}); e != api.ErrArg {
				t.Error(words, e)
			}
		}
	}
}

// P14.1, P14.2: no two lists of a result share memory, and none with an argument.
func TestNewMemory(t *testing.T) {
	const text = "link main a b using c d to e\nrun a using b c on d to e\ncompile a to b with x y"
	l := parsed(t, text)
	for i := range l {
		for _, list := range []*[]string{&l[i].In, &l[i].Using, &l[i].Words} {
			before := fmt.Sprintf("%+v", l)
			spare := (*list)[len(*list):cap(*list)]
			for k := range spare {
				spare[k] = "changed"
			}
			if fmt.Sprintf("%+v", l) != before {
				t.Error(l)
			}
			for k := range *list {
				(*list)[k] = "x"
			}
		}
	}
	if again := parsed(t, text); slices.Equal(again[0].In, l[0].In) {
		t.Error(again)
	}
	s := api.Step{Kind: api.StepLink, In: list{"a", "b", "c"}[:2], Using: list{"d", "e"}[:1], Words: list{"f", "g"}[:1], Out: "h"}
	if out, e := Print([]api.Step{s}); e != api.OK || out != "link f a b using d to h" || s.In[:3][2] != "c" || s.Using[:2][1] != "e" || s.Words[:2][1] != "g" {
		t.Error(out, e, s)
	}
}
