package compile

import (
	"slices"
	"strconv"
	"strings"
	"testing"

	"licit/api"
)

// showSymbols returns the text of the symbols of an object: names, modes and sections.
func showSymbols(o api.Object) string {
	var parts []string
	for _, s := range o.Symbols {
		parts = append(parts, s.Name+":"+strconv.Itoa(s.Mode)+":"+strconv.Itoa(s.Section))
	}
	return strings.Join(parts, " ")
}

// showSections returns the text of the sections of an object.
func showSections(o api.Object) string {
	var parts []string
	for _, s := range o.Sections {
		switch s.Kind {
		case api.SectionCode:
			parts = append(parts, listing(s))
		case api.SectionData:
			parts = append(parts, words(s))
		}
	}
	return strings.Join(parts, " | ")
}

// showSet returns the text of a set of lines.
func showSet(l api.Lines) string {
	var parts []string
	for _, s := range l {
		parts = append(parts, s.Path+":"+strconv.Itoa(s.From)+"-"+strconv.Itoa(s.To))
	}
	return strings.Join(parts, " ")
}

// showReading returns the text of a reading.
func showReading(r api.Reading) string {
	parts := []string{showSet(r.Heads), strings.Join(r.Files, " ")}
	for _, l := range r.Sections {
		parts = append(parts, showSet(l))
	}
	return strings.Join(parts, " | ")
}

// P9.2: objects, with their symbols, and their sections in the order in which they are compiled.
func TestUnit(t *testing.T) {
	for _, x := range []struct{ text, symbols, sections string }{
		{"", "", ""},
		{"extern e", "e:3:-1", ""},
		// exported and weak items in the order of their heads
		{"export fn b 0;weak data a 0;export data d 1;1;weak fn c x 1;do x", "b:1:0 a:2:1 d:1:2 c:2:3", "0 0 |  | 1 | 1 1; get 0; drop"},
		// private ones only if a relocation names them
		{"fn f 1;?;data d 1;?;export fn g 0", "f:0:-1 d:0:-1 g:1:0", "0 0"},
		{"fn f 0;data d 0;fn h 0", "f:0:-1 d:0:-1 h:0:-1", ""},
		{"fn f 0;export fn g 1;do f;data d 1;?", "f:0:1 g:1:0 d:0:-1", "0 0; @f; drop | 0 0"},
		{"fn f 0;export data g 1;f;data d 0", "f:0:1 g:1:0 d:0:-1", "@f | 0 0"},
		{"fn f 1;do f;export fn g 0", "f:0:-1 g:1:0", "0 0"},
		// also in blocks that are read, but not in those that are left out, and not as the name of a variable
		{"fn a 0;fn b 0;fn c 0;fn d 0;export fn t x 6;if 0 1;do a;if x 1;do b;let c = 1;do c", "a:0:-1 b:0:1 c:0:-1 d:0:-1 t:1:0", "1 2; get 0; zero 6; @b; drop; 1; set 1; get 1; drop | 0 0"},
		// behind all others, in the order in which they are named first: those that a section names come before those that these name
		{"fn p 1;do r;fn q 0;fn r 0;export fn a 2;do q;do p;export fn b 1;do r() + q()", "p:0:3 q:0:2 r:0:4 a:1:0 b:1:1", "0 0; @q; drop; @p; drop | 0 0; @r; call 0; @q; call 0; +; drop | 0 0 | 0 0; @r; drop | 0 0"},
		{"export fn a 2;do p;do q;fn p 1;do r;fn q 1;do s;fn r 0;fn s 0", "a:1:0 p:0:1 q:0:2 r:0:3 s:0:4", "0 0; @p; drop; @q; drop | 0 0; @r; drop | 0 0; @s; drop | 0 0 | 0 0"},
		{"export data d 1;p, q, p;data p 1;r, d, p;data q 1;s, r;data r 0;fn s 0;weak fn z 1;do s", "d:1:0 p:0:2 q:0:3 r:0:5 s:0:4 z:2:1", "@p @q @p | 0 0; @s; drop | @r @d @p | @s @r | 0 0 | "},
		// items that name themselves, each other, and symbols from elsewhere
		{"extern e;export fn f 2;do f() + e();do g;fn g 1;do g() + f() + e()", "e:3:-1 f:1:0 g:0:1", "0 0; @f; call 0; @e; call 0; +; drop; @g; drop | 0 0; @g; call 0; @f; call 0; +; @e; call 0; +; drop"},
	} {
		o, r, f := Unit(files("a/m", x.text), "a/m", nil)
		if f != (api.Fault{}) || showSymbols(o) != x.symbols || showSections(o) != x.sections || len(r.Sections) != len(o.Sections) {
			t.Error(x.text, f, showSymbols(o), showSections(o))
		}
	}
}

// P9.2: what was read.
func TestReading(t *testing.T) {
	tree := files("a/m", "include k;define one 1;1;unless big 3;export fn f x 1;do x + one;;when big 2;fn h 1;return three;weak data d 1;g, one",
		"a/k", "note 1;?;define three 1;3;fn g 3;if 0 1;?;do three", "a/other", "?")
	for _, x := range []struct{ flags, symbols, sections, want string }{
		{"", "g:0:2 f:1:0 d:2:1", "1 1; get 0; 1; +; drop | @g 1 | 0 0; 3; drop", "a/k:0-1 a/k:2-3 a/k:4-5 a/m:0-2 a/m:3-5 a/m:6-8 a/m:10-11 | a/k a/m | a/m:2-3 a/m:5-6 | a/m:2-3 a/m:11-12 | a/k:3-4 a/k:5-6 a/k:7-8"},
		{"big other", "g:0:1 h:0:-1 d:2:0", "@g 1 | 0 0; 3; drop", "a/k:0-1 a/k:2-3 a/k:4-5 a/m:0-2 a/m:3-4 a/m:7-9 a/m:10-11 | a/k a/m | a/m:2-3 a/m:11-12 | a/k:3-4 a/k:5-6 a/k:7-8"},
	} {
		o, r, f := Unit(tree, "a/m", strings.Fields(x.flags))
		if f != (api.Fault{}) || showSymbols(o) != x.symbols || showSections(o) != x.sections || showReading(r) != x.want {
			t.Error(x.flags, f, showSymbols(o), showSections(o), showReading(r))
		}
	}
	// the lines of a section are those that Section returns
	u := scanned(t, tree)
	o, r, _ := Unit(tree, "a/m", nil)
	for i, s := range o.Sections {
		name := o.Symbols[slices.IndexFunc(o.Symbols, func(s api.Symbol) bool { return s.Section == i })].Name
		s2, l, f := Section(tree, u, name)
		if f.Error != api.OK || s2.Kind != s.Kind || s2.Data != s.Data || !slices.Equal(s2.Relocs, s.Relocs) || !slices.Equal(l, r.Sections[i]) {
			t.Error(name, f, s, s2)
		}
	}
	if !slices.Equal(u.Heads, r.Heads) || !slices.Equal(u.Files, r.Files) {
		t.Error(r)
	}
}

// P9.2: the fault of Scan, and the first fault of an item in the order in which they are compiled.
func TestUnitFaults(t *testing.T) {
	fault := func(e api.Errno, path string, n int) api.Fault {
		return api.Fault{Error: e, Package: -1, Step: -1, At: api.Line{Path: path, N: n}}
	}
	for _, x := range []struct {
		tree api.Tree
		path string
		want api.Fault
	}{
		{api.Tree{{Path: "A"}}, "a/m", fault(api.ErrArg, "", -1)},
		{files("a/m", ""), "a", fault(api.ErrName, "", -1)},
		{files("a/m", ""), "a/k", fault(api.ErrNotFound, "a/k", -1)},
		{files("a/m", "export fn f 1;?;?"), "a/m", fault(api.ErrSyntax, "a/m", 2)},
		{files("a/m", "export fn f 1;?;fn f 0"), "a/m", fault(api.ErrTwice, "a/m", 2)},
		{files("a/m", "export fn f 2;do 1;?"), "a/m", fault(api.ErrSyntax, "a/m", 2)},
		{files("a/m", "export fn f 1;do x;weak data d 1;?"), "a/m", fault(api.ErrName, "a/m", 1)},
		{files("a/m", "export fn f 1;do 1;weak data d 1;?"), "a/m", fault(api.ErrSyntax, "a/m", 3)},
		// private items behind all others, in the order in which they are named
		{files("a/m", "fn p 1;?;export fn f 1;do p;weak data d 1;x"), "a/m", fault(api.ErrName, "a/m", 5)},
		{files("a/m", "fn p 1;?;fn q 1;do x;export fn f 2;do q;do p"), "a/m", fault(api.ErrName, "a/m", 3)},
		{files("a/m", "fn p 1;?;fn q 1;do p;export fn f 1;do q"), "a/m", fault(api.ErrSyntax, "a/m", 1)},
		{files("a/m", "fn p 1;?;fn q 1;do r;fn r 1;do x;export fn f 2;do q;do p"), "a/m", fault(api.ErrSyntax, "a/m", 1)},
		// in another file
		{files("a/m", "include k;export fn f 1;do g", "a/k", "fn g 2;;set x = 1"), "a/m", fault(api.ErrName, "a/k", 2)},
		// the error of a macro is that of the line in which it is expanded
		{files("a/m", "define m 1;?;export fn f 2;;do m"), "a/m", fault(api.ErrSyntax, "a/m", 4)},
	} {
		o, r, f := Unit(x.tree, x.path, nil)
		if f != x.want || len(o.Symbols)+len(o.Sections)+len(r.Heads)+len(r.Files)+len(r.Sections) != 0 {
			t.Error(x.tree, f, o, r)
		}
	}
	if _, _, f := Unit(files("a/m", ""), "a/m", []string{"x", "x"}); f != fault(api.ErrTwice, "", -1) {
		t.Error(f)
	}
}

// P9.2: as many items as a unit can have, all of which name each other.
func TestManyItems(t *testing.T) {
	var lines, names []string
	for i := range api.MaxSymbols {
		names = append(names, "i"+strconv.Itoa(i))
	}
	all := strings.Join(names, ",")
	lines = append(lines, "define all 1", all, "export data "+names[0]+" 1", "all")
	for _, name := range names[1:] {
		lines = append(lines, "data "+name+" 1", "all")
	}
	o, r, f := Unit(files("a/m", strings.Join(lines, ";")), "a/m", nil)
	if f.Error != api.OK || len(o.Symbols) != api.MaxSymbols || len(o.Sections) != api.MaxSymbols || len(r.Sections) != api.MaxSymbols {
		t.Error(f, len(o.Symbols), len(o.Sections))
	}
	for i, s := range o.Symbols {
		if s.Section != i {
			t.Error(s)
		}
	}
}
