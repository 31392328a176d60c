package link

import (
	"slices"
	"strings"
	"testing"

	"licit/api"
	"licit/binary"
)

// P11.1: the list of sections is in the order in which its sections are mentioned first.
func TestOrder(t *testing.T) {
	for _, x := range []struct {
		objects []api.Member
		want    string
	}{
		// the sections that one mentions come one behind the other, before those that these mention
		{[]api.Member{member("o", "private data b d", "private data a c", "export code main a b", "private data d", "private data c d")}, "o:main o:a o:b o:c o:d"},
		// each once, and not again if it is mentioned by itself, by the first one or by many
		{[]api.Member{member("o", "export code main a main a b", "private code a a b", "private code b main b a")}, "o:main o:a o:b"},
		// not in the order of relocations by name, nor in that of the objects
		{[]api.Member{member("a", "export data x"), member("b", "export data y x", "extern x"), member("c", "export code main z y", "extern y", "private data z")}, "c:main c:z b:y a:x"},
		// what is not mentioned is left out
		{[]api.Member{member("o", "export code main", "export code more", "weak data d"), member("p", "export data e")}, "o:main"},
	} {
		if b, _ := linked(t, input{objects: x.objects}, "main"); placesOf(b) != x.want {
			t.Error(placesOf(b))
		}
	}
}

// P11.1: programs of MaxSections sections, and of one more.
func TestSections(t *testing.T) {
	n := api.MaxSections - 2
	// main, n others, and the data rest of another object
	crowd := made(append(numbered(n, "private data d#"), "export code main "+strings.Join(numbered(n, "d#"), " ")+" rest", "extern rest")...)
	in := input{
		shelves: []api.Shelf{shelf("s", member("m", "export data far"))},
		libs:    []api.Library{library("l", "lib")},
	}
	for _, x := range []struct {
		rest []string
		e    api.Errno
	}{
		{[]string{"export data rest"}, api.OK},
		// what is in the list, or an import, needs no room
		{[]string{"export data rest main rest lib main", "extern main", "extern lib"}, api.OK},
		{[]string{"export data rest far", "extern far"}, api.ErrTooLarge},
		{[]string{"export data rest own", "private data own"}, api.ErrTooLarge},
		// the first relocation decides, and its symbol has to be found before
		{[]string{"export data rest own twice", "private data own", "extern twice"}, api.ErrTooLarge},
		{[]string{"export data rest lib main own none", "private data own", "private none", "extern lib", "extern main"}, api.ErrTooLarge},
		{[]string{"export data rest twice own", "private data own", "extern twice"}, api.ErrTwice},
		{[]string{"export data rest nowhere own", "private data own", "extern nowhere"}, api.ErrUnknown},
		{[]string{"export data rest none own", "private data own", "private none"}, api.ErrUnknown},
	} {
		in.objects = []api.Member{{Name: "o", Object: crowd}, member("r", x.rest...), member("t/1", "export data twice"), member("t/2", "export data twice")}
		b, r, e := in.link("main")
		if e != x.e || e != api.OK && !isNothing(b, r) || e == api.OK && (len(b.Places) != api.MaxSections || binary.Check(b) != api.OK) {
			t.Error(x.rest, e, len(b.Places))
		}
	}
}

// P11.1: the sections of a shared library begin with those of its exports, MaxSections of them and more.
func TestShare(t *testing.T) {
	b, r, e := Share([]api.Member{
		member("o/1", "weak data d 1", "export code f p w", "private data p 2 e", "extern e", "extern w"),
		member("o/2", "export data e 3 d", "weak data w 4", "export data d 5", "private data unused"),
	})
	want := api.Binary{
		Kind: api.Shared, Entry: -1,
		Image:   wordOf(5) + wordOf(3) + wordOf(0) + "\x00\x00\x01" + wordOf(28) + "\x01" + wordOf(24) + wordOf(4) + wordOf(2) + wordOf(4),
		Places:  []api.Placed{{Object: "o/2", Symbol: "d", Kind: api.SectionData, At: 0, Size: 4}, {Object: "o/2", Symbol: "e", Kind: api.SectionData, At: 4, Size: 8}, {Object: "o/1", Symbol: "f", Kind: api.SectionCode, At: 12, Size: 12}, {Object: "o/2", Symbol: "w", Kind: api.SectionData, At: 24, Size: 4}, {Object: "o/1", Symbol: "p", Kind: api.SectionData, At: 28, Size: 8}},
		Fixups:  []int{8, 15, 20, 32},
		Exports: []api.Exported{{Symbol: "d", At: 0}, {Symbol: "e", At: 4}, {Symbol: "f", At: 12}, {Symbol: "w", At: 24}},
	}
	if e != api.OK || show(b) != show(want) || readOf(r) != "o/1 o/2|" || binary.Check(b) != api.OK {
		t.Error(e, show(b), r)
	}
	most := numbered(api.MaxSections, "export data d#")
	all := func(more ...api.Member) []api.Member {
		return append([]api.Member{member("o", most...)}, more...)
	}
	for i, x := range []struct {
		objects []api.Member
		e       api.Errno
	}{
		{nil, api.ErrNotFound}, {[]api.Member{member("o", "private data d", "extern e")}, api.ErrNotFound}, {[]api.Member{member("o"), member("p", "weak data d")}, api.OK},
		{all(), api.OK}, {all(member("p", "weak data d000", "weak data d127")), api.OK}, {all(member("p", "export data e")), api.ErrTooLarge}, {all(member("p", "weak data a")), api.ErrTooLarge},
		// symbol by symbol: ErrTwice of the one with which there are too many, of one before, and of one behind
		{all(member("p", "export data e"), member("q", "export data e")), api.ErrTwice}, {all(member("p", "export data e", "export data d127")), api.ErrTwice}, {all(member("p", "export data e", "export data g"), member("q", "export data g")), api.ErrTooLarge},
		// symbols before relocations, and relocations before the image
		{[]api.Member{member("o", "export data a nowhere", "export data z", "extern nowhere"), member("p", "export data z")}, api.ErrTwice}, {[]api.Member{member("o", "export data a nowhere", "extern nowhere")}, api.ErrUnknown}, {[]api.Member{member("o", "export data a none", "private none")}, api.ErrUnknown}, {[]api.Member{member("o", "export data a b", "private data b c", "extern c"), member("p", "private data c")}, api.ErrUnknown},
		{all(member("p", "weak data d000 b", "private data b")), api.OK}, {append(all(member("p", "export data d127_ b", "private data b"))[1:], member("o", most[1:]...)), api.ErrTooLarge},
	} {
		if b, r, e := Share(x.objects); e != x.e || e != api.OK && !isNothing(b, r) {
			t.Error(i, e)
		}
	}
}

// large returns n data sections of MaxCode bytes, and an object that mentions them and the symbol rest.
func large(n int, entry string) api.Object {
	names := numbered(n, "d#")
	o := made(append(numbered(n, "private data d#"), entry+" "+strings.Join(names, " ")+" rest", "extern rest")...)
	for i := range n {
		o.Sections[i].Data = strings.Repeat("d", api.MaxCode)
	}
	return o
}

// P11.1: images of MaxData bytes, and of one word more.
func TestLargeImages(t *testing.T) {
	o := large(7, "export code main")
	data := func(size int, more ...string) api.Member {
		symbols := []string{"weak data rest " + strings.Join(more, " ")}
		for _, name := range more {
			symbols = append(symbols, "extern "+name)
		}
		m := member("r", symbols...)
		s := &m.Object.Sections[0]
		s.Data += strings.Repeat("r", size-len(s.Data))
		return m
	}
	// what main leaves
	free := api.MaxData - 7*api.MaxCode - len(o.Sections[7].Data)
	free -= free % 4
	for _, x := range []struct {
		size int
		more []string
		e    api.Errno
	}{
		{free, nil, api.OK}, {free + 4, nil, api.ErrTooLarge}, {api.MaxCode, nil, api.ErrTooLarge}, {free - 4, nil, api.OK},
		// an empty section at the end of all
		{free, []string{"empty"}, api.OK}, {free, []string{"word"}, api.ErrTooLarge}, {free - 4, []string{"word"}, api.OK}, {free - 4, []string{"word", "empty"}, api.OK}, {free - 4, []string{"empty", "word", "short"}, api.ErrTooLarge}, {free - 4, []string{"short"}, api.OK}, {free - 4, []string{"short", "empty"}, api.OK},
		// all relocations come before
		{free + 4, []string{"nowhere"}, api.ErrUnknown}, {free + 4, []string{"main", "twice"}, api.ErrTwice},
	} {
		in := input{objects: []api.Member{{Name: "o", Object: o}, data(x.size, x.more...), member("p", "export data empty", "export data word 1", "export code short", "export data twice"), member("q", "export data twice")}}
		b, r, e := in.link("main")
		if e != x.e || e != api.OK && !isNothing(b, r) || e == api.OK && binary.Check(b) != api.OK {
			t.Error(x.size, x.more, e, len(b.Image))
		}
		want := map[bool]int{true: api.MaxData}[x.e == api.OK]
		switch {
		case x.e == api.OK && x.size < free && len(x.more) == 0:
			want -= 4
		case slices.Equal(x.more, []string{"short"}):
			want -= 2
		}
		if len(b.Image) != want {
			t.Error(x.size, x.more, len(b.Image))
		}
	}
	// the same for shared libraries
	o = large(7, "export data main")
	free = api.MaxData - 7*api.MaxCode - len(o.Sections[7].Data)
	for size, want := range map[int]api.Errno{free: api.OK, free + 4: api.ErrTooLarge} {
		b, r, e := Share([]api.Member{{Name: "o", Object: o}, data(size)})
		if e != want || e == api.OK && (len(b.Image) != api.MaxData || binary.Check(b) != api.OK) || e != api.OK && !isNothing(b, r) {
			t.Error(size, e, len(b.Image))
		}
	}
}

// P11.1: the bytes between sections, and none behind the last one.
func TestBytesBetween(t *testing.T) {
	for _, x := range []struct {
		parts []string
		image string
		at    []int
	}{
		{nil, "\x00\x00", []int{0}},
		{[]string{"private data a"}, "\x00\x00\x01\x08\x00\x00\x00\x00", []int{0, 8}},
		{[]string{"private data a", "private data b"}, "\x00\x00\x01\x0c\x00\x00\x00\x01\x0c\x00\x00\x00", []int{0, 12, 12}},
		{[]string{"private code a"}, "\x00\x00\x01\x08\x00\x00\x00\x00\x00\x00", []int{0, 8}},
		{[]string{"private code a 7"}, "\x00\x00\x01\x08\x00\x00\x00\x00\x00\x00\x07", []int{0, 8}},
		{[]string{"private code a 7 8", "private data b 9"}, "\x00\x00\x01\x0c\x00\x00\x00\x01\x10\x00\x00\x00\x00\x00\x07\x08\x09\x00\x00\x00", []int{0, 12, 16}},
		{[]string{"private code a 7", "private data b", "private code c 5 6 7", "private code d"}, "\x00\x00\x01\x18\x00\x00\x00\x01\x1c\x00\x00\x00\x01\x1c\x00\x00\x00\x01\x24\x00\x00\x00\x00\x00\x00\x00\x07\x00\x00\x00\x05\x06\x07\x00\x00\x00\x00\x00", []int{0, 24, 28, 28, 36}},
	} {
		main := "export code main"
		for _, p := range x.parts {
			main += " " + strings.Fields(p)[2]
		}
		b, _ := linked(t, input{objects: []api.Member{member("o", append(x.parts, main)...)}}, "main")
		var at []int
		for _, p := range b.Places {
			at = append(at, p.At)
		}
		if b.Image != x.image || !slices.Equal(at, x.at) || binary.Check(b) != api.OK {
			t.Errorf("%v %q %v", x.parts, b.Image, at)
		}
	}
}

// P11.1: addresses of more than a byte, and Fixups and Imports in the order of addresses.
func TestWords(t *testing.T) {
	o := made("export code main x far b y", "extern far", "extern b", "extern x", "extern y")
	// imports and fixups take turns
	in := input{
		objects: []api.Member{{Name: "o", Object: o}, member("p", "export data far 9 b", "export data b x far x", "extern x")},
		libs:    []api.Library{library("l/z", "x"), library("l/a", "x", "y")},
	}
	pad := &in.objects[1].Object.Sections[0]
	pad.Data += strings.Repeat("x", 1024)
	b, r := linked(t, in, "main")
	main := "\x00\x00\x01" + wordOf(0) + "\x01" + wordOf(24) + "\x01" + wordOf(1056) + "\x01" + wordOf(0) + "\x00\x00"
	want := api.Binary{
		Kind:    api.Program,
		Image:   main + wordOf(9) + wordOf(1056) + strings.Repeat("x", 1024) + wordOf(0) + wordOf(24) + wordOf(0),
		Places:  []api.Placed{{Object: "o", Symbol: "main", Kind: api.SectionCode, At: 0, Size: 22}, {Object: "p", Symbol: "far", Kind: api.SectionData, At: 24, Size: 1032}, {Object: "p", Symbol: "b", Kind: api.SectionData, At: 1056, Size: 12}},
		Fixups:  []int{8, 13, 28, 1060},
		Imports: []api.Import{{Library: "l/z", Symbol: "x", At: 3}, {Library: "l/a", Symbol: "y", At: 18}, {Library: "l/z", Symbol: "x", At: 1056}, {Library: "l/z", Symbol: "x", At: 1064}},
	}
	if show(b) != show(want) || readOf(r) != "o p|l/z l/a" || binary.Check(b) != api.OK {
		t.Error(show(b), r)
	}
	// words behind the address 65535 in an image that has its end there
	o = large(7, "export code main")
	rest := member("r", "weak data rest empty", "extern empty")
	rest.Object.Sections[0].Data += strings.Repeat("r", api.MaxData-7*api.MaxCode-len(o.Sections[7].Data)-6)
	b, _ = linked(t, input{objects: []api.Member{{Name: "o", Object: o}, rest, member("p", "export data empty")}}, "main")
	last := b.Places[len(b.Places)-1]
	if last.At != api.MaxData || !strings.Contains(b.Image, "\x00\x00\x01\x00r") || binary.Check(b) != api.OK {
		t.Error(last, len(b.Image), binary.Check(b))
	}
}

// P11.1 and P11.3: a shared library is a library of other links, as it is, with notes, or read from its bytes.
func TestLinkedAgain(t *testing.T) {
	shared, _, e := Share([]api.Member{member("lib/o", "export code f d", "weak data d 7", "private data hidden")})
	if e != api.OK {
		t.Fatal(e)
	}
	noted, e := binary.Attach(shared, api.Note{Name: "n", Text: "x"})
	bytes, e2 := binary.Encode(noted)
	back, e3 := binary.Decode(bytes)
	if e != api.OK || e2 != api.OK || e3 != api.OK {
		t.Fatal(e, e2, e3)
	}
	for _, l := range []api.Binary{shared, noted, back} {
		in := input{objects: []api.Member{member("o", "export code main d f", "extern f", "extern d")}, libs: []api.Library{library("l/1", "g"), {Path: "l/2", Binary: l}}}
		b, r := linked(t, in, "main")
		if show(b.Imports) != show([]api.Import{{Library: "l/2", Symbol: "d", At: 3}, {Library: "l/2", Symbol: "f", At: 8}}) || readOf(r) != "o|l/1 l/2" || len(b.Fixups) != 0 || len(b.Notes) != 0 || binary.Check(b) != api.OK {
			t.Error(show(b), r)
		}
		if name, isLibrary, e := in.resolve("f"); name != "l/2" || !isLibrary || e != api.OK {
			t.Error(name, e)
		}
		for _, symbol := range []string{"hidden", "h"} {
			if _, _, e := in.resolve(symbol); e != api.ErrUnknown {
				t.Error(symbol, e)
			}
		}
		// what is linked as a program is no library
		if _, _, e := (input{in.objects, nil, []api.Library{{Path: "l", Binary: b}}}).link("main"); e != api.ErrArg {
			t.Error(e)
		}
	}
}

// P11.1: results are new, and arguments are not changed.
func TestResultsAreNew(t *testing.T) {
	in := everywhere()
	in.objects[0].Object = made("export code main f x n f", "extern f", "extern x", "extern n")
	before := show(in)
	b, r := linked(t, in, "main")
	first := show(b, r)
	b.Places[0], b.Fixups[0], b.Imports[0], r.Tables[0], r.Lists[0] = api.Placed{}, -1, api.Import{}, "?", "?"
	if again, r := linked(t, in, "main"); show(again, r) != first || show(in) != before {
		t.Error(show(in))
	}
	objects := []api.Member{member("o", "export data d e", "weak data e d")}
	before = show(objects)
	b, r, e := Share(objects)
	first = show(b, r, e)
	b.Places[0], b.Fixups[0], b.Exports[0], r.Tables[0] = api.Placed{}, -1, api.Exported{}, "?"
	if b, r, e = Share(objects); e != api.OK || show(b, r, e) != first || show(objects) != before {
		t.Error(e, show(objects))
	}
	// lists with room behind their ends stay as they are
	objects = make([]api.Member, 1, 8)
	objects[0] = member("o", "export code main f", "extern f")
	linked(t, input{objects: objects, shelves: []api.Shelf{shelf("s", member("m", "export data f"))}}, "main")
	if more := objects[:2]; show(more[1]) != show(api.Member{}) {
		t.Error(more)
	}
}
