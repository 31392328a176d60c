package binary

import (
	"fmt"
	"slices"
	"strconv"
	"strings"
	"testing"

	"licit/api"
)

// example is the program of the chapter.
func example() api.Binary {
	return api.Binary{Kind: api.Program, Image: "\x00\x00\x0d", Places: []api.Placed{{Object: "a/o", Symbol: "f", Kind: api.SectionCode, At: 0, Size: 3}}}
}

// program is a program with fixups and imports in two of its places, one in an archive, with bytes between them, and with notes.
func program() api.Binary {
	return api.Binary{
		Kind:  api.Program,
		Image: "\x00\x00\x01" + wordOf(16) + "\x01" + wordOf(0) + "\x0d\x00\x00\x00" + wordOf(7) + wordOf(0) + wordOf(28),
		Places: []api.Placed{
			{Object: "a/o", Symbol: "main", Kind: api.SectionCode, At: 0, Size: 13},
			{Object: "lib/a!x/y", Symbol: "d", Kind: api.SectionData, At: 16, Size: 12},
			{Object: "a/o", Symbol: "d", Kind: api.SectionData, At: 28, Size: 0},
		},
		Fixups:  []int{3, 24},
		Imports: []api.Import{{Library: "l/1", Symbol: "far", At: 8}, {Library: "l/1", Symbol: "far", At: 20}},
		Notes:   []api.Note{{Name: "n", Text: "one\x00"}, {Name: "m"}},
	}
}

// shared is a shared library that has two places with the same symbol, and exports one of them.
func shared() api.Binary {
	return api.Binary{
		Kind: api.Shared, Entry: -1,
		Image: wordOf(8) + wordOf(0) + "\x00\x00\x00\x00" + wordOf(5),
		Places: []api.Placed{
			{Object: "o", Symbol: "d", Kind: api.SectionData, At: 0, Size: 8},
			{Object: "o", Symbol: "f", Kind: api.SectionCode, At: 8, Size: 2},
			{Object: "p", Symbol: "d", Kind: api.SectionData, At: 12, Size: 4},
		},
		Fixups:  []int{0, 4},
		Exports: []api.Exported{{Symbol: "d", At: 12}, {Symbol: "f", At: 8}},
	}
}

// wordOf returns the bytes of a word.
func wordOf(n int) string {
	return string([]byte{byte(n), byte(n >> 8), byte(n >> 16), byte(n >> 24)})
}

// show returns values as text, which is the same for nil and empty lists.
func show(values ...any) string { return fmt.Sprintf("%+v", values) }

// same says whether two binaries are equal.
func same(a, b api.Binary) bool { return show(a) == show(b) }

// checks checks that a binary is valid, or not, for all functions that ask for it.
func checks(t *testing.T, what any, b api.Binary, valid bool) {
	t.Helper()
	want := map[bool]api.Errno{true: api.OK, false: api.ErrArg}[valid]
	before := show(b)
	text, e2 := Encode(b)
	stripped, e3 := Strip(b)
	noted, e4 := Attach(b, api.Note{Name: "new", Text: "t"})
	plain, e5 := Plain(b, 0)
	if e := Check(b); e != want || e3 != want || e5 != want {
		t.Error(what, e, e3, e5)
	}
	// what is valid may still be too large
	if e2 != want && (!valid || e2 != api.ErrTooLarge) || e4 != want && (!valid || e4 != api.ErrTooLarge) {
		t.Error(what, e2, e4)
	}
	if e2 != api.OK && text != "" || e4 != api.OK && !same(noted, api.Binary{}) || !valid && (!same(stripped, api.Binary{}) || plain != "") {
		t.Error(what, len(text), noted, stripped, plain)
	}
	if show(b) != before {
		t.Error(what, before, show(b))
	}
}

// P12.1: the valid binaries of the tests.
func TestValid(t *testing.T) {
	for i, b := range []api.Binary{example(), program(), shared()} {
		checks(t, i, b, true)
	}
	checks(t, "zero", api.Binary{}, false)
	checks(t, "kind alone", api.Binary{Kind: api.Program}, false)
	checks(t, "shared alone", api.Binary{Kind: api.Shared, Entry: -1}, false)
}

// placed returns a shared library of places of some kinds and sizes, in order: a size, with c in front for code.
func placed(sizes ...string) api.Binary {
	b := api.Binary{Kind: api.Shared, Entry: -1}
	for i, text := range sizes {
		size, _ := strconv.Atoi(strings.TrimPrefix(text, "c"))
		kind := api.SectionData
		if strings.HasPrefix(text, "c") {
			kind = api.SectionCode
		}
		for len(b.Image)%4 != 0 {
			b.Image += "\x00"
		}
		b.Places = append(b.Places, api.Placed{Object: "o", Symbol: "s" + strconv.Itoa(i), Kind: kind, At: len(b.Image), Size: size})
		b.Image += strings.Repeat("x", max(size, 0))
	}
	return b
}

// P12.1: each condition of places and the image, and its opposite.
func TestPlaces(t *testing.T) {
	sizes := func(n int, size string) []string { return slices.Repeat([]string{size}, n) }
	for i, x := range []struct {
		b     api.Binary
		valid bool
	}{
		// how many places
		{placed("4"), true}, {placed(), false}, {placed(sizes(api.MaxSections, "4")...), true}, {placed(sizes(api.MaxSections+1, "4")...), false}, {placed(sizes(api.MaxSections+1, "0")...), false},
		// sizes of the kinds
		{placed("c2"), true}, {placed("c3"), true}, {placed("c8192"), true}, {placed("c1"), false}, {placed("c0"), false}, {placed("c8193"), false}, {placed("c-4"), false},
		{placed("0"), true}, {placed("8192"), true}, {placed("1"), false}, {placed("2"), false}, {placed("3"), false}, {placed("5"), false}, {placed("8196"), false}, {placed("-4"), false}, {placed("-1"), false},
		// one behind the other
		{placed("c5", "0", "4", "c2", "c2", "0"), true}, {placed("0", "0", "0"), true}, {placed("4", "c3", "6"), false},
		// MaxData bytes of the image, and more
		{placed(sizes(8, "8192")...), true}, {placed(append(sizes(8, "8192"), "0")...), true}, {placed(append(sizes(8, "8192"), "4")...), false}, {placed(append(sizes(7, "8192"), "8188", "c2")...), true}, {placed(append(sizes(7, "8192"), "8188", "c5")...), false}, {placed(sizes(9, "c8192")...), false},
	} {
		checks(t, i, x.b, x.valid)
	}
	type change = func(b *api.Binary, p *api.Placed)
	for i, x := range []struct {
		c     change
		valid bool
	}{
		// names of objects
		{func(b *api.Binary, p *api.Placed) { p.Object = "1/2/3/4/5/6/7/8!1/2/3/4/5/6/7/8" }, true}, {func(b *api.Binary, p *api.Placed) { p.Object = "q-1.o" }, true}, {func(b *api.Binary, p *api.Placed) { p.Object = "a!b" }, true},
		{func(b *api.Binary, p *api.Placed) { p.Object = "" }, false}, {func(b *api.Binary, p *api.Placed) { p.Object = "!" }, false}, {func(b *api.Binary, p *api.Placed) { p.Object = "a!" }, false}, {func(b *api.Binary, p *api.Placed) { p.Object = "!a" }, false}, {func(b *api.Binary, p *api.Placed) { p.Object = "a!b!c" }, false}, {func(b *api.Binary, p *api.Placed) { p.Object = "a!!b" }, false}, {func(b *api.Binary, p *api.Placed) { p.Object = "A" }, false}, {func(b *api.Binary, p *api.Placed) { p.Object = "a!B" }, false}, {func(b *api.Binary, p *api.Placed) { p.Object = "a/!b" }, false}, {func(b *api.Binary, p *api.Placed) { p.Object = "1/2/3/4/5/6/7/8/9" }, false},
		// symbols
		{func(b *api.Binary, p *api.Placed) { p.Symbol = strings.Repeat("n", 32) }, true}, {func(b *api.Binary, p *api.Placed) { p.Symbol = "f" }, true}, {func(b *api.Binary, p *api.Placed) { p.Symbol = "" }, false}, {func(b *api.Binary, p *api.Placed) { p.Symbol = "let" }, false}, {func(b *api.Binary, p *api.Placed) { p.Symbol = "D" }, false}, {func(b *api.Binary, p *api.Placed) { p.Symbol = strings.Repeat("n", 33) }, false},
		// the same object and symbol, both and one of them
		{func(b *api.Binary, p *api.Placed) { p.Symbol = "e"; p.Object = "o" }, true}, {func(b *api.Binary, p *api.Placed) { p.Object = "o!o" }, true}, {func(b *api.Binary, p *api.Placed) { p.Object = "o" }, false}, {func(b *api.Binary, p *api.Placed) { p.Object, p.Symbol = "o", "f" }, false},
		// kinds
		{func(b *api.Binary, p *api.Placed) { p.Kind = api.SectionCode }, true}, {func(b *api.Binary, p *api.Placed) { p.Kind = 0 }, false}, {func(b *api.Binary, p *api.Placed) { p.Kind = 3 }, false}, {func(b *api.Binary, p *api.Placed) { p.Kind = -1 }, false},
		// where they begin and end
		{func(b *api.Binary, p *api.Placed) { p.At = 8 }, false}, {func(b *api.Binary, p *api.Placed) { p.At = 10 }, false}, {func(b *api.Binary, p *api.Placed) { p.At = 16; b.Image += wordOf(0) }, false}, {func(b *api.Binary, p *api.Placed) { p.At = 1<<63 - 1 }, false}, {func(b *api.Binary, p *api.Placed) { p.At = -1 << 63 }, false},
		{func(b *api.Binary, p *api.Placed) { p.Size = 0 }, false}, {func(b *api.Binary, p *api.Placed) { p.Size = 8 }, false}, {func(b *api.Binary, p *api.Placed) { p.Size = 1<<63 - 4 }, false}, {func(b *api.Binary, p *api.Placed) { p.Size = -1 << 63 }, false}, {func(b *api.Binary, p *api.Placed) { p.Size = 8; b.Image += wordOf(0) }, true},
		{func(b *api.Binary, p *api.Placed) { b.Places[0].At = 4 }, false}, {func(b *api.Binary, p *api.Placed) { b.Places[0].At = -4 }, false}, {func(b *api.Binary, p *api.Placed) { b.Places[1].Size = 4 }, true}, {func(b *api.Binary, p *api.Placed) { b.Places[1].Size = 5 }, false}, {func(b *api.Binary, p *api.Placed) { b.Places[0], b.Places[1] = b.Places[1], b.Places[0] }, false},
		// where the image ends
		{func(b *api.Binary, p *api.Placed) { b.Image += "\x00" }, false}, {func(b *api.Binary, p *api.Placed) { b.Image += wordOf(0) }, false}, {func(b *api.Binary, p *api.Placed) { b.Image = b.Image[:15] }, false}, {func(b *api.Binary, p *api.Placed) { b.Image = b.Image[:12] }, false}, {func(b *api.Binary, p *api.Placed) { b.Image = "" }, false}, {func(b *api.Binary, p *api.Placed) { b.Image = b.Image[:10]; b.Places = b.Places[:2] }, true}, {func(b *api.Binary, p *api.Placed) { b.Image = b.Image[:12]; b.Places = b.Places[:2] }, false},
		// the bytes between places
		{func(b *api.Binary, p *api.Placed) { b.Image = b.Image[:10] + "\x01\x00" + b.Image[12:] }, false}, {func(b *api.Binary, p *api.Placed) { b.Image = b.Image[:10] + "\x00\x01" + b.Image[12:] }, false}, {func(b *api.Binary, p *api.Placed) { b.Image = b.Image[:10] + "\x00 " + b.Image[12:] }, false}, {func(b *api.Binary, p *api.Placed) { b.Image = b.Image[:9] + "\x01" + b.Image[10:] }, true}, {func(b *api.Binary, p *api.Placed) { b.Image = b.Image[:12] + "\x01" + b.Image[13:] }, true},
	} {
		b := shared()
		b.Exports = nil
		x.c(&b, &b.Places[2])
		checks(t, i, b, x.valid)
	}
}

// P12.1: each condition of words, kinds and exports, and its opposite.
func TestWordsAndKinds(t *testing.T) {
	program, shared := program(), shared()
	image := func(b *api.Binary, at int, word string) { b.Image = b.Image[:at] + word + b.Image[at+len(word):] }
	imports := func(ats ...int) func(b *api.Binary) {
		return func(b *api.Binary) {
			b.Imports = nil
			for _, at := range ats {
				b.Imports = append(b.Imports, api.Import{Library: "l", Symbol: "s", At: at})
			}
		}
	}
	fixups := func(ats ...int) func(b *api.Binary) { return func(b *api.Binary) { b.Fixups = ats } }
	exports := func(l ...api.Exported) func(b *api.Binary) { return func(b *api.Binary) { b.Exports = l } }
	for i, x := range []struct {
		b      api.Binary
		change func(b *api.Binary)
		valid  bool
	}{
		// fixups: the words there, their order, and where they are
		{program, fixups(), true}, {program, fixups(3), true}, {program, fixups(24), true}, {program, fixups(24, 3), false}, {program, fixups(3, 3, 24), false}, {program, fixups(3, 24, 24), false}, {program, fixups(3, 16, 24), false},
		{program, fixups(-1), false}, {program, fixups(28), false}, {program, fixups(25), false}, {program, fixups(-1 << 63), false}, {program, fixups(1<<63 - 1), false}, {program, fixups(1<<63 - 4), false},
		{program, func(b *api.Binary) { image(b, 3, wordOf(0)) }, true}, {program, func(b *api.Binary) { image(b, 3, wordOf(28)) }, true}, {program, func(b *api.Binary) { image(b, 24, wordOf(16)) }, true}, {program, func(b *api.Binary) { image(b, 3, wordOf(4)) }, false}, {program, func(b *api.Binary) { image(b, 3, wordOf(20)) }, false}, {program, func(b *api.Binary) { image(b, 3, wordOf(-16)) }, false}, {program, func(b *api.Binary) { image(b, 3, wordOf(16+256)) }, false}, {program, func(b *api.Binary) { image(b, 3, wordOf(16+1<<16)) }, false}, {program, func(b *api.Binary) { image(b, 3, wordOf(16+1<<24)) }, false}, {program, func(b *api.Binary) { image(b, 3, "\x00\x00\x00\x10") }, false},
		// imports: likewise
		{program, imports(), true}, {program, imports(8), true}, {program, imports(20), true}, {program, imports(20, 8), false}, {program, imports(8, 8, 20), false}, {program, imports(8, 20, 20), false}, {program, imports(16, 20), false},
		{program, imports(-1), false}, {program, imports(-4), false}, {program, imports(28), false}, {program, imports(1<<63 - 1), false}, {program, imports(-1 << 63), false}, {program, func(b *api.Binary) { image(b, 8, wordOf(1)) }, false}, {program, func(b *api.Binary) { image(b, 8, wordOf(1<<24)) }, false}, {program, func(b *api.Binary) { image(b, 20, wordOf(16)) }, false},
		{program, func(b *api.Binary) { b.Imports[0].Library = "m" }, true}, {program, func(b *api.Binary) { b.Imports[0].Library = "" }, false}, {program, func(b *api.Binary) { b.Imports[1].Library = "l!m" }, false}, {program, func(b *api.Binary) { b.Imports[1].Library = "L" }, false}, {program, func(b *api.Binary) { b.Imports[0].Symbol = "main" }, true}, {program, func(b *api.Binary) { b.Imports[0].Symbol = "" }, false}, {program, func(b *api.Binary) { b.Imports[1].Symbol = "if" }, false}, {program, func(b *api.Binary) { b.Imports[1].Symbol = "A" }, false},
		// bytes that two words would have, or that no place has
		{program, func(b *api.Binary) { fixups(3, 20)(b); imports(8)(b) }, true}, {program, func(b *api.Binary) { fixups(3, 20)(b) }, false}, {program, func(b *api.Binary) { imports(3, 8)(b); image(b, 3, wordOf(0)) }, false}, {program, func(b *api.Binary) { fixups(3)(b); imports(4)(b); image(b, 3, wordOf(0)+"\x00") }, false}, {program, func(b *api.Binary) { fixups(3)(b); imports(6)(b); image(b, 3, wordOf(0)+wordOf(0)) }, false}, {program, func(b *api.Binary) { fixups(3)(b); imports(7)(b); image(b, 3, wordOf(0)+wordOf(0)) }, true}, {program, func(b *api.Binary) { fixups(7)(b); imports(3)(b); image(b, 3, wordOf(0)+wordOf(0)) }, true}, {program, func(b *api.Binary) { fixups(6)(b); imports(3)(b); image(b, 3, wordOf(0)+wordOf(0)) }, false},
		{program, func(b *api.Binary) { fixups(9)(b); imports()(b); image(b, 9, wordOf(0)) }, true}, {program, func(b *api.Binary) { fixups(10)(b); imports()(b); image(b, 9, wordOf(0)) }, false}, {program, func(b *api.Binary) { fixups(12)(b); imports()(b); image(b, 9, wordOf(0)) }, false}, {program, func(b *api.Binary) { fixups(13)(b); imports()(b) }, false}, {program, func(b *api.Binary) { fixups()(b); imports(10)(b); image(b, 9, wordOf(0)) }, false}, {program, func(b *api.Binary) { fixups()(b); imports(9)(b); image(b, 9, wordOf(0)) }, true},
		{shared, fixups(0), true}, {shared, fixups(0, 4, 12), false}, {shared, fixups(4), true}, {shared, fixups(4, 0), false}, {shared, fixups(0, 2), false}, {shared, fixups(8), false}, {shared, fixups(6), false},
		// what programs have
		{program, func(b *api.Binary) { b.Entry = -1 }, false}, {program, func(b *api.Binary) { b.Entry = 1 }, false}, {program, func(b *api.Binary) { b.Entry = 16 }, false}, {program, exports(api.Exported{Symbol: "main"}), false}, {program, exports(api.Exported{Symbol: "d", At: 16}), false}, {program, func(b *api.Binary) { b.Places[0].Kind, b.Places[0].Size = api.SectionData, 16 }, false},
		{program, func(b *api.Binary) { b.Kind = 0 }, false}, {program, func(b *api.Binary) { b.Kind = 3 }, false}, {program, func(b *api.Binary) { b.Kind = -1 }, false}, {program, func(b *api.Binary) { b.Kind = api.Shared }, false}, {program, func(b *api.Binary) { b.Kind, b.Entry = api.Shared, -1 }, false}, {program, func(b *api.Binary) { b.Kind, b.Entry, b.Imports = api.Shared, -1, nil }, true}, {program, func(b *api.Binary) { b.Kind, b.Imports = api.Shared, nil }, false},
		// what shared libraries have
		{shared, func(b *api.Binary) { b.Entry = 0 }, false}, {shared, func(b *api.Binary) { b.Entry = -2 }, false}, {shared, func(b *api.Binary) { b.Entry = 8 }, false}, {shared, func(b *api.Binary) { b.Kind, b.Entry, b.Exports = api.Program, 0, nil }, false}, {shared, func(b *api.Binary) { b.Kind = 0 }, false},
		{shared, func(b *api.Binary) { fixups(0)(b); imports(4)(b) }, false},
		{shared, exports(), true}, {shared, exports(api.Exported{Symbol: "d", At: 0}, api.Exported{Symbol: "f", At: 8}), true}, {shared, exports(api.Exported{Symbol: "f", At: 8}), true}, {shared, exports(api.Exported{Symbol: "d", At: 12}), true},
		{shared, exports(api.Exported{Symbol: "d", At: 8}), false}, {shared, exports(api.Exported{Symbol: "f", At: 0}), false}, {shared, exports(api.Exported{Symbol: "d", At: 4}), false}, {shared, exports(api.Exported{Symbol: "g", At: 8}), false}, {shared, exports(api.Exported{Symbol: "", At: 8}), false}, {shared, exports(api.Exported{Symbol: "d", At: -1}), false},
		{shared, exports(api.Exported{Symbol: "f", At: 8}, api.Exported{Symbol: "d", At: 12}), false}, {shared, exports(api.Exported{Symbol: "d", At: 0}, api.Exported{Symbol: "d", At: 12}), false}, {shared, exports(api.Exported{Symbol: "f", At: 8}, api.Exported{Symbol: "f", At: 8}), false},
	} {
		b := withNotes(x.b, nil)
		x.change(&b)
		checks(t, i, b, x.valid)
	}
}

// notes returns n notes with a text.
func notes(n int, text string) []api.Note {
	var l []api.Note
	for i := range n {
		l = append(l, api.Note{Name: "n" + strconv.Itoa(i), Text: text})
	}
	return l
}

// P12.1: each condition of notes, and its opposite.
func TestNotes(t *testing.T) {
	named := func(names ...string) []api.Note {
		var l []api.Note
		for _, name := range names {
			l = append(l, api.Note{Name: name})
		}
		return l
	}
	long := strings.Repeat("t", api.MaxData)
	for i, x := range []struct {
		l     []api.Note
		valid bool
	}{
		{nil, true}, {notes(api.MaxFiles, ""), true}, {notes(api.MaxFiles+1, ""), false}, {notes(2, long), true}, {notes(1, long+"t"), false}, {append(notes(2, ""), api.Note{Name: "n", Text: long + "t"}), false}, {notes(api.MaxFiles, long), true},
		{named("b", "a", "main"), true}, {named(strings.Repeat("n", 32)), true}, {named(""), false}, {named("let"), false}, {named("note"), false}, {named("N"), false}, {named("a.b"), false}, {named("a", "a"), false}, {named("a", "b", "a"), false}, {named("a", "1"), false}, {named(strings.Repeat("n", 33)), false},
	} {
		for _, b := range []api.Binary{program(), shared()} {
			b.Notes = x.l
			checks(t, i, b, x.valid)
		}
	}
}

// P12.2: notes are attached behind the others, found, and stripped.
func TestAttach(t *testing.T) {
	b := program()
	c, e := Attach(b, api.Note{Name: "a", Text: "text"})
	want := program()
	want.Notes = append(want.Notes, api.Note{Name: "a", Text: "text"})
	if e != api.OK || !same(c, want) || !same(b, program()) {
		t.Error(e, c)
	}
	d, e := Attach(c, api.Note{Name: "b"})
	want.Notes = append(want.Notes, api.Note{Name: "b"})
	if e != api.OK || !same(d, want) {
		t.Error(e, d)
	}
	for _, x := range []struct {
		name, text string
		found      bool
	}{{"n", "one\x00", true}, {"m", "", true}, {"a", "text", true}, {"b", "", true}, {"c", "", false}, {"", "", false}, {"let", "", false}} {
		if text, found := Note(d, x.name); text != x.text || found != x.found {
			t.Error(x.name, text, found)
		}
	}
	for i, b := range []api.Binary{example(), program(), c, d, shared()} {
		s, e := Strip(b)
		want := withNotes(b, nil)
		if e != api.OK || !same(s, want) || len(s.Notes) != 0 {
			t.Error(i, e, s)
		}
	}
	// the first one with a name, in any binary
	strange := api.Binary{Notes: []api.Note{{Name: "?", Text: "x"}, {Name: "", Text: "y"}, {Name: "?", Text: "z"}}}
	for name, want := range map[string]string{"?": "x", "": "y"} {
		if text, found := Note(strange, name); text != want || !found {
			t.Error(name, text)
		}
	}
	if text, found := Note(api.Binary{}, ""); text != "" || found {
		t.Error(text)
	}
}

// P12.2: the errors of Attach, in their order.
func TestAttachErrors(t *testing.T) {
	long := strings.Repeat("t", api.MaxData)
	full, bad := program(), program()
	full.Notes = notes(api.MaxFiles, "x")
	bad.Entry = 1
	room := program()
	room.Notes = full.Notes[:api.MaxFiles-1]
	for i, x := range []struct {
		b          api.Binary
		name, text string
		e          api.Errno
	}{
		{program(), "a", long, api.OK}, {program(), "a", long + "t", api.ErrTooLarge}, {room, "a", long, api.OK}, {room, "a", long + "t", api.ErrTooLarge}, {full, "a", "", api.ErrTooLarge}, {full, "a", long + "t", api.ErrTooLarge},
		{full, "n63", "", api.ErrTwice}, {full, "n0", long + "t", api.ErrTwice}, {program(), "n", "x", api.ErrTwice}, {program(), "m", long + "t", api.ErrTwice}, {room, "n63", "", api.OK},
		{full, "", "", api.ErrName}, {program(), "let", long + "t", api.ErrName}, {program(), "N", "", api.ErrName}, {program(), "a b", "", api.ErrName}, {program(), strings.Repeat("n", 33), "", api.ErrName}, {program(), strings.Repeat("n", 32), "", api.OK},
		{bad, "a", "", api.ErrArg}, {bad, "", long + "t", api.ErrArg}, {bad, "n", "", api.ErrArg}, {api.Binary{}, "a", "", api.ErrArg},
	} {
		b, e := Attach(x.b, api.Note{Name: x.name, Text: x.text})
		if e != x.e || e != api.OK && !same(b, api.Binary{}) {
			t.Error(i, e)
		}
		if last := len(b.Notes) - 1; e == api.OK && (last != len(x.b.Notes) || b.Notes[last] != api.Note{Name: x.name, Text: x.text} || Check(b) != api.OK) {
			t.Error(i, last)
		}
	}
}

// P12.3: addresses before, in, between and behind places.
func TestAt(t *testing.T) {
	many := placed("c2", "0", "c5", "4", "0")
	strange := api.Binary{Places: []api.Placed{{At: 5, Size: 3}, {At: 4, Size: 2}, {At: 6, Size: 4}, {At: -7, Size: 2}, {At: 20, Size: -1}, {At: 1<<63 - 2, Size: 5}, {At: -1 << 63, Size: 1}, {At: 100, Size: 1<<63 - 1}}}
	for _, x := range []struct {
		b       api.Binary
		address int
		want    int
	}{
		{example(), -1, -1}, {example(), 0, 0}, {example(), 2, 0}, {example(), 3, -1}, {example(), 4, -1}, {example(), 1<<63 - 1, -1}, {example(), -1 << 63, -1},
		{program(), 0, 0}, {program(), 12, 0}, {program(), 13, -1}, {program(), 15, -1}, {program(), 16, 1}, {program(), 27, 1}, {program(), 28, -1},
		{many, 1, 0}, {many, 2, -1}, {many, 3, -1}, {many, 4, 2}, {many, 8, 2}, {many, 9, -1}, {many, 12, 3}, {many, 15, 3}, {many, 16, -1},
		// any binary: the first place to which a byte belongs
		{strange, 3, -1}, {strange, 4, 1}, {strange, 5, 0}, {strange, 7, 0}, {strange, 8, 2}, {strange, 9, 2}, {strange, 10, -1}, {strange, -7, 3}, {strange, -6, 3}, {strange, -5, -1}, {strange, -8, -1}, {strange, 20, -1}, {strange, 19, -1}, {strange, 99, -1}, {strange, 100, 7}, {strange, 1<<63 - 3, 7}, {strange, 1<<63 - 2, 5}, {strange, 1<<63 - 1, 5}, {strange, -1 << 63, 6}, {strange, -1<<63 + 1, -1},
		{api.Binary{}, 0, -1},
	} {
		i, found := At(x.b, x.address)
		if found != (x.want >= 0) || i != max(x.want, 0) {
			t.Error(x.address, i, found, x.want)
		}
	}
}

// P12.3: the plain bytes of places, and the errors.
func TestPlain(t *testing.T) {
	bad := program()
	bad.Entry = 1
	for _, x := range []struct {
		b    api.Binary
		i    int
		want string
		e    api.Errno
	}{
		{example(), 0, "\x00\x00\x0d", api.OK}, {program(), 0, "\x00\x00\x01" + wordOf(0) + "\x01" + wordOf(0) + "\x0d", api.OK}, {program(), 1, wordOf(7) + wordOf(0) + wordOf(0), api.OK}, {program(), 2, "", api.OK},
		{shared(), 0, wordOf(0) + wordOf(0), api.OK}, {shared(), 1, "\x00\x00", api.OK}, {shared(), 2, wordOf(5), api.OK},
		{program(), 3, "", api.ErrRange}, {program(), -1, "", api.ErrRange}, {program(), 1<<63 - 1, "", api.ErrRange}, {program(), -1 << 63, "", api.ErrRange}, {example(), 1, "", api.ErrRange},
		{bad, 0, "", api.ErrArg}, {bad, 3, "", api.ErrArg}, {bad, -1, "", api.ErrArg}, {api.Binary{}, 0, "", api.ErrArg},
	} {
		before := show(x.b)
		if plain, e := Plain(x.b, x.i); plain != x.want || e != x.e || show(x.b) != before {
			t.Errorf("%d %q %v", x.i, plain, e)
		}
	}
	// words that are no fixups stay, and all bytes of words that are fixups are 0
	b := placed("8", "8")
	b.Image = wordOf(8) + wordOf(8) + "abcdefgh"
	b.Fixups = []int{4}
	for i, want := range []string{wordOf(8) + wordOf(0), "abcdefgh"} {
		if plain, e := Plain(b, i); plain != want || e != api.OK {
			t.Errorf("%d %q %v", i, plain, e)
		}
	}
	// a word that is an address of three bytes, at the end of all bytes
	large := placed(append(slices.Repeat([]string{"8192"}, 8), "0")...)
	from := large.Places[7].At
	large.Image = large.Image[:from] + wordOf(from) + large.Image[from+4:api.MaxData-4] + wordOf(api.MaxData)
	large.Fixups = []int{from, api.MaxData - 4}
	if plain, e := Plain(large, 7); e != api.OK || plain != wordOf(0)+strings.Repeat("x", 8184)+wordOf(0) {
		t.Error(e, len(plain))
	}
	if plain, e := Plain(large, 8); e != api.OK || plain != "" {
		t.Error(e, plain)
	}
}

// P12.2 and P12.1: results are new, and arguments are not changed.
func TestResultsAreNew(t *testing.T) {
	for _, b := range []api.Binary{program(), shared()} {
		before := show(b)
		text, _ := Encode(b)
		one, e := Attach(b, api.Note{Name: "x"})
		two, e2 := Strip(b)
		three, e3 := Decode(text)
		if e != api.OK || e2 != api.OK || e3 != api.OK {
			t.Fatal(e, e2, e3)
		}
		for _, c := range []api.Binary{one, two, three} {
			c.Places[0], c.Fixups[0] = api.Placed{}, -1
			for i := range c.Imports {
				c.Imports[i] = api.Import{}
			}
			for i := range c.Exports {
				c.Exports[i] = api.Exported{}
			}
			for i := range c.Notes {
				c.Notes[i] = api.Note{}
			}
		}
		if again, e := Decode(text); e != api.OK || show(again) != before || show(b) != before {
			t.Error(show(b), show(again))
		}
	}
	// lists with room behind their ends stay as they are
	b := program()
	b.Notes = append(make([]api.Note, 0, 8), b.Notes...)
	c, _ := Attach(b, api.Note{Name: "x"})
	d, _ := Attach(b, api.Note{Name: "y"})
	if c.Notes[2].Name != "x" || d.Notes[2].Name != "y" || b.Notes[:3][2] != (api.Note{}) {
		t.Error(c.Notes, d.Notes)
	}
}
