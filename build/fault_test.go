package build

import (
	"fmt"
	"strings"
	"testing"

	"licit/api"
	"licit/link"
	"licit/object"
)

// samples are files of each kind that steps read, beside a recipe.
func samples(t *testing.T) []string {
	g := compiled(t, gText)
	shared, r, e := link.Share([]api.Member{{Name: "q/g.o", Object: g}})
	so := bytesOf(t, shared, r, e)
	program, r, e := link.Link("g", []api.Member{{Name: "q/g.o", Object: g}}, nil, nil)
	bin := bytesOf(t, program, r, e)
	main := []api.Member{{Name: "q/e.o", Object: compiled(t, echoText)}}
	needing, r, e := link.Link("main", main, nil, []api.Library{{Path: "q/g.so", Binary: shared}})
	needs := bytesOf(t, needing, r, e)
	archive, e := object.Pack([]api.Member{{Name: "q/g.o", Object: g}})
	if e != api.OK {
		t.Fatal(e)
	}
	return []string{
		"text", "a\nb", "dir/f", "x", "many", strings.Repeat("\n", api.MaxLines),
		"src", gText, "bad.src", "extern f\nexport fn g 2\nout 1\nout h", "head.src", "\nmake", "loop.src", "include loop.src",
		"g.o", encoded(t, g), "m.o", encoded(t, compiled(t, mainText)), "f.o", encoded(t, compiled(t, fText)), "x.o", encoded(t, compiled(t, "extern u\nfn g 0")), "d.o", encoded(t, compiled(t, "export data d 1\n1")), "u.o", encoded(t, compiled(t, "extern u\nexport fn g 1\nreturn u")),
		"g.a", archive, "g.so", so, "bin", bin, "needs", needs,
		"loop.bin", bytesOf(linked(t, "export fn main 1\nwhile 1 0")), "range.bin", bytesOf(linked(t, "export fn main 1\nreturn load(2)")),
		"arg.bin", bytesOf(linked(t, "export fn main x 0")),
		"p", "keep 1\ndrop 1", "p3", "keep 3", "pbase", "base " + strings.Repeat("0", 64) + "\nkeep 2", "pbad", "add 1\nx\ndrop 1",
	}
}

// linked links a source text that needs nothing else.
func linked(t *testing.T, text string) (*testing.T, api.Binary, api.LinkReading, api.Errno) {
	b, r, e := link.Link("main", []api.Member{{Name: "q/o", Object: compiled(t, text)}}, nil, nil)
	return t, b, r, e
}

// P15.1: the errors of steps, and the first one of those that hold at once.
func TestStepFaults(t *testing.T) {
	parts := samples(t)
	deep := "a/b/c/d/e/f/g/h"
	for _, x := range []struct {
		step string
		e    api.Errno
	}{
		// paths
		{"copy " + deep + " to x", api.ErrName},
		{"copy text to " + deep, api.ErrName},
		{"copy text to " + deep[2:], api.OK},
		{"archive g.o " + deep + " to x", api.ErrName},
		{"link g g.o using g.so " + deep + " to x", api.ErrName},
		{"install " + deep + " as x", api.ErrName},
		{"copy " + long(api.MaxPath-3) + " to x", api.ErrName},
		{"copy " + long(api.MaxPath-4) + " to x", api.ErrNotFound},
		{"copy text to " + long(api.MaxPath-3), api.ErrName},
		{"copy text to " + long(api.MaxPath-4), api.OK},
		{"copy " + deep + " to text", api.ErrName},
		{"copy none to " + deep, api.ErrName},
		// what exists
		{"copy text to text", api.ErrTwice},
		{"copy text to recipe", api.ErrTwice},
		{"install text as text", api.ErrTwice},
		{"copy text to recipe/x", api.ErrTwice},
		{"copy text to recipe/x/y/z", api.ErrTwice},
		{"copy text to dir", api.ErrTwice},
		{"copy text to dir/f/x", api.ErrTwice},
		{"copy text to dir/g", api.OK},
		{"copy text to dir/f2", api.OK},
		{"copy text to di", api.OK},
		{"copy text to dir-", api.OK},
		{"copy text to recipe-/x", api.OK},
		{"copy none to text", api.ErrTwice},
		{"compile bad.src to dir", api.ErrTwice},
		// what may be read
		{"copy none to x", api.ErrNotFound},
		{"copy dir to x", api.ErrNotFound},
		{"copy x to x", api.ErrNotFound},
		{"copy @app/text to x", api.OK},
		{"copy app/text to x", api.ErrNotFound},
		{"copy @ap/text to x", api.ErrNotFound},
		{"patch text with none to x", api.ErrNotFound},
		{"patch none with p to x", api.ErrNotFound},
		{"run none on text to x", api.ErrNotFound},
		{"run text on none to x", api.ErrNotFound},
		{"run text using none on text to x", api.ErrNotFound},
		{"link main text using g.a none to x", api.ErrNotFound},
		{"archive text none to x", api.ErrNotFound},
		{"share none to x", api.ErrNotFound},
		{"compile none to x", api.ErrNotFound},
		{"install none as x", api.ErrNotFound},
		// archives and shared libraries
		{"archive text to x", api.ErrCorrupt},
		{"archive g.o g.a to x", api.ErrCorrupt},
		{"archive g.o g.o text to x", api.ErrCorrupt},
		{"archive g.o @app/g.o to x", api.ErrArg},
		{"archive g.o f.o m.o to x", api.OK},
		{"share g.so to x", api.ErrCorrupt},
		{"share g.o g.o bin to x", api.ErrCorrupt},
		{"share g.o g.o to x", api.ErrArg},
		{"share x.o to x", api.ErrNotFound},
		{"share g.o u.o to x", api.ErrTwice},
		{"share f.o to x", api.ErrUnknown},
		{"share f.o g.o to x", api.OK},
		// programs
		{"link g text to x", api.ErrCorrupt},
		{"link g g.o g.so to x", api.ErrCorrupt},
		{"link g g.o using text to x", api.ErrCorrupt},
		{"link g g.o using g.o to x", api.ErrCorrupt},
		{"link g g.o using g.a g.so bin to x", api.ErrCorrupt},
		{"link g g.o g.o using bin to x", api.ErrCorrupt},
		{"link g g.o g.o to x", api.ErrArg},
		{"link g g.o using g.a g.a to x", api.ErrArg},
		{"link g g.o using g.so g.so to x", api.ErrArg},
		{"link main g.o to x", api.ErrUnknown},
		{"link main m.o to x", api.ErrUnknown},
		{"link g u.o to x", api.ErrUnknown},
		{"link g u.o g.o to x", api.ErrTwice},
		{"link d d.o to x", api.ErrMismatch},
		{"link main m.o f.o using g.so g.a to x", api.OK},
		// runs
		{"run text on text to x", api.ErrCorrupt},
		{"run g.o on text to x", api.ErrCorrupt},
		{"run g.so using text on text to x", api.ErrCorrupt},
		{"run bin using g.a on text to x", api.ErrCorrupt},
		{"run bin using bin text on text to x", api.ErrCorrupt},
		{"run g.so on text to x", api.ErrArg},
		{"run bin using bin on text to x", api.ErrArg},
		{"run bin using g.so g.so on text to x", api.ErrArg},
		{"run needs on text to x", api.ErrUnknown},
		{"run needs using g.so on text to x", api.ErrUnknown}, // its path is another one
		{"run loop.bin on text to x", api.ErrLimit},
		{"run range.bin on text to x", api.ErrRange},
		{"run arg.bin on text to x", api.ErrMismatch},
		{"run bin using g.so on many to x", api.OK},
		// patches
		{"patch text with many to x", api.ErrTooLarge},
		{"patch many with many to x", api.ErrTooLarge},
		{"patch text with pbad to x", api.ErrSyntax},
		{"patch many with pbad to x", api.ErrSyntax},
		{"patch many with p to x", api.ErrTooLarge},
		{"patch text with p3 to x", api.ErrMismatch},
		{"patch text with pbase to x", api.ErrMismatch},
		{"patch text with p to x", api.OK},
	} {
		for _, before := range []int{0, 3} {
			b, f := Build(one(strings.Repeat("\n", before)+x.step+"\ncopy text to last", parts...))
			want := fault(x.e, before)
			if x.e == api.OK {
				want = api.Fault{}
			}
			if f != want || isZero(b) != (x.e != api.OK) {
				t.Error(x.step, f)
			}
		}
	}
}

// P15.1: the faults of compilations, at the lines of the source files.
func TestCompileFaults(t *testing.T) {
	parts := samples(t)
	flags := ""
	for i := range api.MaxSymbols + 1 {
		flags += fmt.Sprintf(" f%d", i)
	}
	for _, x := range []struct {
		step string
		e    api.Errno
		path string
		n    int
	}{
		{"compile bad.src to x", api.ErrName, "app/bad.src", 3},
		{"compile head.src to x", api.ErrSyntax, "app/head.src", 1},
		{"compile loop.src to x", api.ErrLoop, "app/loop.src", 0},
		{"compile many to x", api.ErrTooLarge, "app/many", -1},
		{"compile text to x", api.ErrSyntax, "app/text", 0},
		{"compile src to x with" + flags, api.ErrTooLarge, "", -1},
	} {
		b, f := Build(one("\n"+x.step, parts...))
		if want := (api.Fault{Error: x.e, Step: 1, At: api.Line{Path: x.path, N: x.n}}); f != want || !isZero(b) {
			t.Error(x.step, f)
		}
	}
}

// P15.1: what steps of a package may read of other ones.
func TestOtherPackages(t *testing.T) {
	first := pack("a", "copy f to made\ninstall f as out\ninstall made as o/made", "f", "1")
	last := pack("c", "install f as out", "f", "3")
	for _, x := range []struct {
		step string
		e    api.Errno
	}{
		{"copy @a/out to x", api.OK},
		{"copy @a/o/made to x", api.OK},
		{"copy @b/f to x", api.OK},
		{"copy @a/f to x", api.ErrNotFound},
		{"copy @a/made to x", api.ErrNotFound},
		{"copy @a/recipe to x", api.ErrNotFound},
		{"copy @c/f to x", api.ErrNotFound},
		{"copy @c/out to x", api.ErrNotFound},
		{"copy @d/out to x", api.ErrNotFound},
		{"copy out to x", api.ErrNotFound},
		{"copy a/out to x", api.ErrNotFound},
		{"install @a/out as out", api.OK},
		{"copy f to a/out", api.OK},
		// what is not installed exists, too, but nothing is written to other packages
		{"patch @a/out with @a/f to x", api.ErrNotFound},
	} {
		b, f := Build(api.Distribution{first, pack("b", x.step, "f", "2"), last})
		want := fault(x.e, 0)
		want.Package = 1
		if x.e == api.OK {
			want = api.Fault{}
		}
		if f != want || isZero(b) != (x.e != api.OK) {
			t.Error(x.step, f)
		}
	}
	// installed by the package itself, and read by a later one only then
	d := api.Distribution{pack("a", "install f as out\ncopy out to x", "f", "1"), pack("b", "copy @a/out to y\ncopy @a/x to z")}
	want := fault(api.ErrNotFound, 1)
	want.Package = 1
	if b, f := Build(d); f != want || !isZero(b) {
		t.Error(f)
	}
}

// copies returns steps that write so many files.
func copies(n int) string {
	var l []string
	for i := range n {
		l = append(l, fmt.Sprintf("copy recipe to f%d", i))
	}
	return strings.Join(l, "\n")
}

// P15.1: the step that would make more than MaxFiles files, and what comes before and behind that.
func TestManyFiles(t *testing.T) {
	if b := built(t, one(copies(api.MaxFiles-1))); len(b.Files) != api.MaxFiles || len(b.Record) != api.MaxFiles-1 {
		t.Error(len(b.Files))
	}
	for _, x := range []struct {
		d          api.Distribution
		e          api.Errno
		place, row int
	}{
		{one(copies(api.MaxFiles)), api.ErrTooLarge, 0, api.MaxFiles - 1},
		{one(copies(api.MaxFiles-1) + "\ncopy none to x"), api.ErrTooLarge, 0, api.MaxFiles - 1},
		{one(copies(api.MaxFiles-1) + "\ncopy none to f0"), api.ErrTwice, 0, api.MaxFiles - 1},
		{one(copies(api.MaxFiles-1) + "\ncopy none to f0/x"), api.ErrTwice, 0, api.MaxFiles - 1},
		{one(copies(api.MaxFiles-1) + "\ncopy a/b/c/d/e/f/g/h to x"), api.ErrName, 0, api.MaxFiles - 1},
		{append(one(copies(api.MaxFiles-2)), pack("b", "\ncopy recipe to x")), api.ErrTooLarge, 1, 1},
		{append(many(2, api.MaxFiles-2), pack("b", "")), api.ErrTooLarge, -1, -1},
		{api.Distribution{pack("b", "copy recipe to x"), pack("c", copies(api.MaxFiles-3)), pack("d", "copy none to x")}, api.ErrTooLarge, 1, api.MaxFiles - 4},
	} {
		b, f := Build(x.d)
		if want := (api.Fault{Error: x.e, Package: x.place, Step: x.row, At: api.Line{N: -1}}); f != want || !isZero(b) {
			t.Error(f, want)
		}
	}
}

// zeros returns the source lines of data with a name and a size.
func zeros(name string, size int) string {
	var l []string
	for words := size / 4; words > 0; words -= 100 {
		l = append(l, strings.Repeat("0,", min(words, 100)-1)+"0")
	}
	return fmt.Sprintf("export data %s %d\n%s\n", name, len(l), strings.Join(l, "\n"))
}

// P15.1: outputs of MaxData bytes, and of one more. Each distribution writes app/x, whose size grows with two numbers, one by one.
func TestOutputs(t *testing.T) {
	full := map[string]int{}
	for i := range 6 {
		full[fmt.Sprintf("a%d", i)] = api.MaxCode
	}
	object := words(t, full)
	name := func(k int) string { return strings.Repeat("b", k) }
	single := func(symbol string, size int) string { return words(t, map[string]int{symbol: size}) }
	code := "extern m\nexport fn main 1\nreturn m + l"
	for n := range full {
		code = "extern " + n + "\n" + code + " + " + n
	}
	main := encoded(t, compiled(t, code+"\n"+zeros("l", api.MaxCode)))
	for i, shape := range []func(k, size int) api.Distribution{
		func(k, size int) api.Distribution {
			text := zeros(name(k), size) + zeros("l", api.MaxCode)
			for n := range full {
				text += zeros(n, api.MaxCode)
			}
			return one("compile s to x", "s", strings.TrimSuffix(text, "\n"))
		},
		func(k, size int) api.Distribution {
			return one("archive a c "+name(k)+" to x", "a", object, "c", single("l", api.MaxCode), name(k), single("m", size))
		},
		func(k, size int) api.Distribution {
			return one("share a c "+name(k)+" to x", "a", object, "c", single("l", api.MaxCode), name(k), single("m", size))
		},
		func(k, size int) api.Distribution {
			return one("link main a c "+name(k)+" to x", "a", object, "c", main, name(k), single("m", size))
		},
		func(k, size int) api.Distribution {
			return one("patch a with p to x", "a", strings.Repeat("x", api.MaxData-api.MaxCode), "p", "keep 1\nadd 1\n"+strings.Repeat("y", k+size))
		},
	} {
		size := 4000
		more := api.MaxData - len(data(t, built(t, shape(1, size)), "app/x"))
		k := 1 + more%4
		size += more - more%4
		if n := len(data(t, built(t, shape(k, size)), "app/x")); n != api.MaxData {
			t.Error(i, n)
		}
		for _, d := range []api.Distribution{shape(k+1, size), shape(k, size+4)} {
			if b, f := Build(d); f != fault(api.ErrTooLarge, 0) || !isZero(b) {
				t.Error(i, f)
			}
		}
	}
	big := strings.Repeat("x", api.MaxData)
	if b := built(t, one("copy f to x\ninstall x as y", "f", big)); data(t, b, "app/x") != big || data(t, b, "app/y") != big {
		t.Error(len(b.Files))
	}
}

// P15.1: what is too large before it has bytes.
func TestTooLarge(t *testing.T) {
	full := map[string]int{}
	for i := range 7 {
		full[fmt.Sprintf("a%d", i)] = api.MaxCode
	}
	object := words(t, full)
	other := words(t, map[string]int{"b": api.MaxCode, "c": api.MaxCode})
	for _, kind := range []string{"share", "archive"} {
		if b, f := Build(one(kind+" a b to x", "a", object, "b", other)); f != fault(api.ErrTooLarge, 0) || !isZero(b) {
			t.Error(kind, f)
		}
	}
}
