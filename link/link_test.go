package link

import (
	"slices"
	"strings"
	"testing"

	"licit/api"
)

// example is the objects and the archive of the chapter.
func example() input {
	return input{
		objects: []api.Member{member("a/m.o", "export code main f 12", "extern f")},
		shelves: []api.Shelf{shelf("lib/a", member("x", "export code g"), member("y", "export code f 13"))},
	}
}

// P11.1: the example of the chapter, and what was read for it.
func TestExample(t *testing.T) {
	in := example()
	b, r := linked(t, in, "main")
	want := api.Binary{
		Kind:   api.Program,
		Image:  "\x00\x00\x01\x08\x00\x00\x00\x0c\x00\x00\x0d",
		Places: []api.Placed{{Object: "a/m.o", Symbol: "main", Kind: api.SectionCode, At: 0, Size: 8}, {Object: "lib/a!y", Symbol: "f", Kind: api.SectionCode, At: 8, Size: 3}},
		Fixups: []int{3},
	}
	if show(b) != show(want) || readOf(r) != "a/m.o lib/a!x lib/a!y|" {
		t.Error(show(b), r)
	}
	in.objects = append(in.objects, member("a/w.o", "weak data f 7"))
	b, r = linked(t, in, "main")
	want.Image = "\x00\x00\x01\x08\x00\x00\x00\x0c\x07\x00\x00\x00"
	want.Places[1] = api.Placed{Object: "a/w.o", Symbol: "f", Kind: api.SectionData, At: 8, Size: 4}
	if show(b) != show(want) || readOf(r) != "a/m.o a/w.o|" {
		t.Error(show(b), r)
	}
}

// P11.1 and P11.2: each condition of valid arguments, and its opposite.
func TestArguments(t *testing.T) {
	main := member("m", "export code main")
	objects := func(l ...api.Member) input { return input{objects: append([]api.Member{main}, l...)} }
	shelves := func(l ...api.Shelf) input { return input{[]api.Member{main}, l, nil} }
	libs := func(l ...api.Library) input { return input{[]api.Member{main}, nil, l} }
	archived := func(l ...api.Member) input { return shelves(shelf("s", l...)) }
	bad := member("bad", "export code f g")
	kind := func(kind int) api.Library { return api.Library{Path: "l", Binary: api.Binary{Kind: kind}} }
	strange := library("l", "a", "b")
	strange.Binary = api.Binary{Kind: api.Shared, Entry: 7, Image: "xyz", Fixups: []int{-1}, Exports: []api.Exported{{Symbol: "a", At: -5}, {Symbol: "b", At: 1 << 40}}}
	long := strings.Repeat("n", api.MaxName)
	for i, x := range []struct {
		in    input
		valid bool
	}{
		{objects(), true}, {objects(member("n", "export data d 1"), member("a/b", "weak code f"), member("1/2/3/4/5/6/7/8")), true},
		// names of objects
		{objects(member("m/n")), true}, {objects(member("m")), false}, {objects(member("a"), member("a")), false}, {objects(member("")), false}, {objects(member("A")), false}, {objects(member("a/")), false}, {objects(member("a!b")), false}, {objects(member("1/2/3/4/5/6/7/8/9")), false}, {objects(member(long + "n")), false},
		// objects that are not valid, also if they are not needed
		{objects(bad), false}, {objects(member("n", "export data d 1", "extern d")), false}, {objects(member("n", "private let")), false}, {objects(member("n", "extern data d")), false}, {objects(api.Member{Name: "n", Object: api.Object{Symbols: []api.Symbol{{Name: "f", Mode: api.Export, Section: -1}}}}), false},
		// archives
		{shelves(shelf("s"), shelf("t", member("a", "export code f"))), true}, {shelves(shelf("m")), true}, {shelves(shelf("s", member("m")), shelf("t", member("m"))), true},
		{shelves(shelf("s"), shelf("s")), false}, {shelves(shelf("")), false}, {shelves(shelf("s!t")), false}, {shelves(shelf("s/")), false}, {shelves(shelf("s"), shelf(".")), false},
		{archived(member("a"), member("a/b")), true}, {archived(member("a"), member("a")), false}, {archived(member("")), false}, {archived(member("a!b")), false}, {archived(member("A")), false}, {archived(bad), false}, {archived(member("a"), member("n", "extern let")), false},
		// libraries
		{libs(library("l"), library("m", "a")), true}, {libs(library("l", "_", "a", "a1", "aa", "b", long)), true}, {libs(strange), true}, {libs(kind(api.Shared)), true},
		{libs(library("l"), library("l")), false}, {libs(library("")), false}, {libs(library("L")), false}, {libs(library("a!b")), false},
		{libs(kind(api.Program)), false}, {libs(kind(0)), false}, {libs(kind(3)), false}, {libs(kind(-1)), false},
		{libs(library("l", "a", "a")), false}, {libs(library("l", "b", "a")), false}, {libs(library("l", "a", "c", "b")), false}, {libs(library("l", "a", "let")), false}, {libs(library("l", "A")), false}, {libs(library("l", "")), false}, {libs(library("l", "1")), false}, {libs(library("l", long+"n")), false}, {libs(library("k"), library("l", "a.b")), false},
	} {
		want := map[bool]api.Errno{true: api.OK, false: api.ErrArg}[x.valid]
		b, r, e := x.in.link("main")
		if e != want || !x.valid && !isNothing(b, r) {
			t.Error(i, e)
		}
		name, isLibrary, e := x.in.resolve("main")
		if e != want || isLibrary || name != map[bool]string{true: "m"}[x.valid] {
			t.Error(i, name, e)
		}
		if len(x.in.shelves)+len(x.in.libs) == 0 {
			if b, r, e := Share(x.in.objects); e != want || !x.valid && !isNothing(b, r) {
				t.Error(i, e)
			}
		}
	}
}

// P11.1 and P11.2: names that no symbol can have, which come before all other errors of symbols.
func TestNoIdentifier(t *testing.T) {
	in := input{objects: []api.Member{member("m", "export data d")}}
	for _, name := range []string{"", "let", "data", "A", "1", "a b", "a.b", " d", "d ", "d\x00", strings.Repeat("d", api.MaxName+1)} {
		if b, r, e := in.link(name); e != api.ErrArg || !isNothing(b, r) {
			t.Errorf("%q %v", name, e)
		}
		if found, isLibrary, e := in.resolve(name); e != api.ErrArg || found != "" || isLibrary {
			t.Errorf("%q %v", name, e)
		}
	}
	for _, name := range []string{"_", "x", strings.Repeat("d", api.MaxName)} {
		if _, _, e := in.link(name); e != api.ErrUnknown {
			t.Errorf("%q %v", name, e)
		}
	}
}

// P11.1 and P11.2: as many objects, archives, members and libraries as there may be, and one more.
func TestMany(t *testing.T) {
	members := func(n int) []api.Member {
		var l []api.Member
		for _, name := range numbered(n, "a/#") {
			l = append(l, member(name, "export code f"+name[2:]))
		}
		return l
	}
	shelves := func(n int) []api.Shelf {
		var l []api.Shelf
		for _, name := range numbered(n, "s/#") {
			l = append(l, shelf(name, member("x", "weak code g"+name[2:])))
		}
		return l
	}
	libs := func(n int) []api.Library {
		var l []api.Library
		for _, name := range numbered(n, "l/#") {
			l = append(l, library(name, "h"+name[2:]))
		}
		return l
	}
	n := api.MaxFiles
	for i, x := range []struct {
		in    input
		valid bool
	}{
		{input{members(n), shelves(n), libs(n)}, true}, {input{members(n + 1), shelves(n), libs(n)}, false}, {input{members(n), shelves(n + 1), libs(n)}, false}, {input{members(n), shelves(n), libs(n + 1)}, false},
		{input{members(1), []api.Shelf{shelf("s/063", members(n)...), shelf("t", members(n)...)}, libs(64)}, true}, {input{members(1), []api.Shelf{shelf("s", members(n+1)...)}, nil}, false},
	} {
		want := map[bool]api.Errno{true: api.OK, false: api.ErrArg}[x.valid]
		if _, _, e := x.in.link("f000"); e != want {
			t.Error(i, e)
		}
		for _, symbol := range []string{"f063", "g063", "h063"} {
			name, isLibrary, e := x.in.resolve(symbol)
			// the first input alone has archives with this symbol
			if x.valid && i > 0 && symbol == "g063" {
				continue
			}
			if e != want || x.valid && (!strings.HasSuffix(strings.TrimSuffix(name, "!x"), "/063") || isLibrary != (symbol == "h063")) {
				t.Error(i, symbol, name, e)
			}
		}
	}
	if b, r, e := Share(members(n)); e != api.OK || len(b.Exports) != n || len(r.Tables) != n {
		t.Error(e)
	}
	if b, r, e := Share(members(n + 1)); e != api.ErrArg || !isNothing(b, r) {
		t.Error(e)
	}
}

// everywhere is objects, archives and libraries in which symbols occur in all ways.
func everywhere() input {
	return input{
		objects: []api.Member{
			member("o/1", "export code main", "weak data w 1", "export data both 1", "weak data over 1", "private data hidden 1", "extern x", "weak data twice 1", "private inner"),
			member("o/2", "export data f 1", "weak data w 2", "export data both 2", "export data over 2", "extern far", "private data f2 1"),
			member("o/3", "weak data w 3", "weak data f 3", "weak data over 3", "export data thrice 3", "extern m"),
			member("o/4", "export data thrice 4", "weak data both 4"),
			member("o/5", "export data thrice 5"),
		},
		shelves: []api.Shelf{
			shelf("s/1", member("a", "export code f", "extern n", "private data m 1", "private data h 1"), member("b/c", "weak code m", "export data k")),
			shelf("s/2"),
			shelf("s/3", member("a", "export code m", "weak data n", "weak data k"), member("d", "export code n", "export data far")),
		},
		libs: []api.Library{library("l/1", "g", "main"), library("l/2", "far", "g", "h", "x"), library("l/3", "inner", "x")},
	}
}

// P11.2: where symbols are found: Export in one object and in more, Weak in several, in a member, in a library, and nowhere.
func TestResolve(t *testing.T) {
	in := everywhere()
	for _, x := range []struct {
		symbol, name string
		isLibrary    bool
		e            api.Errno
	}{
		{"main", "o/1", false, api.OK}, {"f", "o/2", false, api.OK}, {"w", "o/1", false, api.OK}, {"over", "o/2", false, api.OK}, {"twice", "o/1", false, api.OK},
		{"both", "", false, api.ErrTwice}, {"thrice", "", false, api.ErrTwice},
		{"m", "s/1!b/c", false, api.OK}, {"n", "s/3!a", false, api.OK}, {"k", "s/1!b/c", false, api.OK}, {"far", "s/3!d", false, api.OK},
		{"g", "l/1", true, api.OK}, {"h", "l/2", true, api.OK}, {"x", "l/2", true, api.OK}, {"inner", "l/3", true, api.OK},
		{"hidden", "", false, api.ErrUnknown}, {"f2", "", false, api.ErrUnknown}, {"nowhere", "", false, api.ErrUnknown},
	} {
		if name, isLibrary, e := in.resolve(x.symbol); name != x.name || isLibrary != x.isLibrary || e != x.e {
			t.Error(x.symbol, name, isLibrary, e)
		}
	}
	if _, _, e := (input{}).resolve("f"); e != api.ErrUnknown {
		t.Error(e)
	}
	if name, isLibrary, e := (input{shelves: in.shelves}).resolve("f"); name != "s/1!a" || isLibrary || e != api.OK {
		t.Error(name, e)
	}
	if name, isLibrary, e := (input{libs: in.libs}).resolve("far"); name != "l/2" || !isLibrary || e != api.OK {
		t.Error(name, e)
	}
}

// P11.1: tables and lists are read up to the one in which a symbol is found, and all of them if there is none.
func TestReading(t *testing.T) {
	in := input{
		shelves: []api.Shelf{shelf("s", member("a", "export data f"), member("b", "extern g")), shelf("e"), shelf("t", member("a", "weak data g f", "extern f"), member("c", "export code k m l", "export data m", "extern l"))},
		libs:    []api.Library{library("x", "l"), library("y", "l", "p"), library("z", "q")},
	}
	for _, x := range []struct{ main, want string }{
		{"7", "o o2|"}, {"main", "o o2|"}, {"own", "o o2|"}, {"f", "o o2 s!a|"}, {"g", "o o2 s!a s!b t!a|"}, {"m", "o o2 s!a s!b t!a t!c|"}, {"k", "o o2 s!a s!b t!a t!c|x"},
		{"l", "o o2 s!a s!b t!a t!c|x"}, {"p", "o o2 s!a s!b t!a t!c|x y"}, {"q", "o o2 s!a s!b t!a t!c|x y z"}, {"f g f", "o o2 s!a s!b t!a|"}, {"g f", "o o2 s!a s!b t!a|"}, {"q l", "o o2 s!a s!b t!a t!c|x y z"},
	} {
		in.objects = []api.Member{member("o", "export code main "+x.main, "private data own", "extern f", "extern g", "extern k", "extern l", "extern m", "extern p", "extern q"), member("o2")}
		if _, r := linked(t, in, "main"); readOf(r) != x.want {
			t.Error(x.main, r)
		}
	}
	// the entry is resolved, too
	in.objects = nil
	if b, r := linked(t, in, "k"); readOf(r) != "s!a s!b t!a t!c|x" || placesOf(b) != "t!c:k t!c:m" {
		t.Error(r, b)
	}
	if _, r, e := Share([]api.Member{member("b", "export data d"), member("a"), member("a/c", "private data p")}); e != api.OK || readOf(r) != "b a a/c|" {
		t.Error(e, r)
	}
}

// P11.1: entries, wherever they are, and the errors of those that cannot be one.
func TestEntry(t *testing.T) {
	in := everywhere()
	for _, x := range []struct {
		entry, place string
		e            api.Errno
	}{
		{"main", "o/1:main", api.OK}, {"m", "s/1!b/c:m", api.OK},
		{"both", "", api.ErrTwice}, {"thrice", "", api.ErrTwice}, {"f", "", api.ErrMismatch}, {"w", "", api.ErrMismatch}, {"n", "", api.ErrMismatch}, {"k", "", api.ErrMismatch},
		// what is private, or in a library, is no entry
		{"hidden", "", api.ErrUnknown}, {"inner", "", api.ErrUnknown}, {"x", "", api.ErrUnknown}, {"g", "", api.ErrUnknown}, {"h", "", api.ErrUnknown}, {"nowhere", "", api.ErrUnknown},
	} {
		b, r, e := in.link(x.entry)
		if placesOf(b) != x.place || e != x.e || e != api.OK && !isNothing(b, r) {
			t.Error(x.entry, b, e)
		}
	}
	// the kind of the entry comes before what it mentions
	wrong := input{objects: []api.Member{member("o", "export data d e", "extern e")}}
	if _, _, e := wrong.link("d"); e != api.ErrMismatch {
		t.Error(e)
	}
}

// P11.1: private symbols are those of the object of a section, and nobody else's.
func TestPrivate(t *testing.T) {
	in := input{
		objects: []api.Member{
			member("a", "export code main p g", "private data p 1 q", "private data q 2", "extern g"),
			member("b", "export data g p q r", "private data p 3", "private data q 4", "extern r"),
			member("c", "export data p 5", "private r"),
		},
		shelves: []api.Shelf{shelf("s", member("x", "export data q 6", "weak data r 7 q", "extern p"))},
	}
	b, r := linked(t, in, "main")
	if placesOf(b) != "a:main a:p b:g a:q b:p b:q s!x:r s!x:q" || readOf(r) != "a b c s!x|" {
		t.Error(placesOf(b), r)
	}
	want := "\x00\x00\x01" + wordOf(12) + "\x01" + wordOf(20) + wordOf(1) + wordOf(32) + wordOf(36) + wordOf(40) + wordOf(44) + wordOf(2) + wordOf(3) + wordOf(4) + wordOf(7) + wordOf(52) + wordOf(6)
	if b.Image != want || !slices.Equal(b.Fixups, []int{3, 8, 16, 20, 24, 28, 48}) {
		t.Errorf("%q %v", b.Image, b.Fixups)
	}
	// a private symbol without a section, although others have it
	in.objects[1] = member("b", "export data g r", "private r")
	for _, entry := range []string{"main", "g"} {
		if b, r, e := in.link(entry); e != map[string]api.Errno{"main": api.ErrUnknown, "g": api.ErrMismatch}[entry] || !isNothing(b, r) {
			t.Error(entry, e)
		}
	}
	if b, r, e := Share(in.objects); e != api.ErrUnknown || !isNothing(b, r) {
		t.Error(e)
	}
}

// P11.1: which section a symbol means that is Export or Weak in the object that mentions it.
func TestOwnSymbols(t *testing.T) {
	in := input{objects: []api.Member{member("a", "export code main f g h", "weak data f 1", "export data g 1", "weak data h 1"), member("b", "export data f 2", "weak data g 2", "weak data h 2")}}
	if b, _ := linked(t, in, "main"); placesOf(b) != "a:main b:f a:g a:h" {
		t.Error(placesOf(b))
	}
	in.objects[1] = member("b", "export data g 2")
	if _, _, e := in.link("main"); e != api.ErrTwice {
		t.Error(e)
	}
	// a member's own symbol is not the first one
	in = input{objects: []api.Member{member("o", "export code main f", "extern f")}, shelves: []api.Shelf{shelf("s", member("a", "weak data g 1"), member("b", "export data f g main", "export data g 2", "weak code main"))}}
	if b, r := linked(t, in, "main"); placesOf(b) != "o:main s!b:f s!a:g" || readOf(r) != "o s!a s!b|" {
		t.Error(placesOf(b), r)
	}
}
