package emulate

import (
	"slices"
	"strings"
	"testing"

	"licit/api"
)

// P13.1: what has to hold for loading, and the opposite of each of it.
func TestLoadErrors(t *testing.T) {
	good := func() (api.Binary, []api.Library) {
		return program("a/o main code 0 0 push $lib/s:f call 0 return push $lib/q:d"),
			[]api.Library{library("lib/s", "s/o f code 0 0 in return", "s/o g data 1 @s/o:f"), library("lib/q", "s/o d data 1")}
	}
	for i, x := range []struct {
		change func(b *api.Binary, libs []api.Library) []api.Library
		e      api.Errno
	}{
		{func(b *api.Binary, libs []api.Library) []api.Library { return libs }, api.OK},
		{func(b *api.Binary, libs []api.Library) []api.Library { b.Image += "\x00"; return libs }, api.ErrArg},
		{func(b *api.Binary, libs []api.Library) []api.Library { b.Entry = 1; return libs }, api.ErrArg},
		{func(b *api.Binary, libs []api.Library) []api.Library { b.Kind = api.Shared; return libs }, api.ErrArg},
		{func(b *api.Binary, libs []api.Library) []api.Library { *b = libs[0].Binary; return libs }, api.ErrArg},
		{func(b *api.Binary, libs []api.Library) []api.Library { *b = api.Binary{}; return libs }, api.ErrArg},
		// a program without an image, with and without a place
		{func(b *api.Binary, libs []api.Library) []api.Library {
			*b = api.Binary{Kind: api.Program}
			return libs
		}, api.ErrArg},
		{func(b *api.Binary, libs []api.Library) []api.Library {
			*b = api.Binary{Kind: api.Program, Places: []api.Placed{{Object: "a/o", Symbol: "main", Kind: api.SectionCode}}}
			return libs
		}, api.ErrArg},
		{func(b *api.Binary, libs []api.Library) []api.Library {
			*b = api.Binary{Kind: api.Program, Places: []api.Placed{{Object: "a/o", Symbol: "main", Kind: api.SectionData}}}
			return libs
		}, api.ErrArg},
		// the libraries
		{func(b *api.Binary, libs []api.Library) []api.Library {
			return append(libs, libraries(api.MaxFiles-2)...)
		}, api.OK},
		{func(b *api.Binary, libs []api.Library) []api.Library {
			return append(libs, libraries(api.MaxFiles-1)...)
		}, api.ErrArg},
		{func(b *api.Binary, libs []api.Library) []api.Library { libs[1].Binary.Fixups = []int{0}; return libs }, api.ErrArg},
		{func(b *api.Binary, libs []api.Library) []api.Library { libs[0].Binary.Image = ""; return libs }, api.ErrArg},
		{func(b *api.Binary, libs []api.Library) []api.Library { libs[0].Binary.Kind = api.Program; return libs }, api.ErrArg},
		{func(b *api.Binary, libs []api.Library) []api.Library {
			return append(libs, api.Library{Path: "x", Binary: program("a/o main code 0 0")})
		}, api.ErrArg},
		{func(b *api.Binary, libs []api.Library) []api.Library { return append(libs, library("x", "s/o e data")) }, api.OK},
		{func(b *api.Binary, libs []api.Library) []api.Library { return append(libs, library("", "s/o e data")) }, api.ErrArg},
		{func(b *api.Binary, libs []api.Library) []api.Library {
			return append(libs, library("@x/y", "s/o e data"))
		}, api.ErrArg},
		{func(b *api.Binary, libs []api.Library) []api.Library {
			return append(libs, library("a/A", "s/o e data"))
		}, api.ErrArg},
		{func(b *api.Binary, libs []api.Library) []api.Library {
			return append(libs, library("lib/s", "s/o e data"))
		}, api.ErrArg},
		{func(b *api.Binary, libs []api.Library) []api.Library { return append(libs, libs[1]) }, api.ErrArg},
		{func(b *api.Binary, libs []api.Library) []api.Library {
			return append(libs, api.Library{Path: "lib", Binary: libs[1].Binary})
		}, api.OK},
		// the imports
		{func(b *api.Binary, libs []api.Library) []api.Library { slices.Reverse(libs); return libs }, api.OK},
		{func(b *api.Binary, libs []api.Library) []api.Library { return libs[:1] }, api.ErrUnknown},
		{func(b *api.Binary, libs []api.Library) []api.Library { return nil }, api.ErrUnknown},
		{func(b *api.Binary, libs []api.Library) []api.Library { b.Imports = nil; return nil }, api.OK},
		{func(b *api.Binary, libs []api.Library) []api.Library { libs[0].Path = "lib/t"; return libs }, api.ErrUnknown},
		{func(b *api.Binary, libs []api.Library) []api.Library { b.Imports[0].Symbol = "h"; return libs }, api.ErrUnknown},
		{func(b *api.Binary, libs []api.Library) []api.Library { b.Imports[0].Symbol = "d"; return libs }, api.ErrUnknown},
		{func(b *api.Binary, libs []api.Library) []api.Library { b.Imports[0].Symbol = "main"; return libs }, api.ErrUnknown},
		{func(b *api.Binary, libs []api.Library) []api.Library {
			libs[0].Binary.Exports = libs[0].Binary.Exports[1:] // f is still a place
			return libs
		}, api.ErrUnknown},
		{func(b *api.Binary, libs []api.Library) []api.Library { b.Imports[0].Symbol = "g"; return libs }, api.OK},
		// two at once
		{func(b *api.Binary, libs []api.Library) []api.Library {
			b.Imports[0].Symbol = "h"
			return append(libs, libs[1])
		}, api.ErrArg},
	} {
		b, libs := good()
		libs = x.change(&b, libs)
		m, e := Load(b, libs)
		if e != x.e || (m == nil) != (e != api.OK) {
			t.Error(i, e, m)
		}
		if e == api.OK {
			continue
		}
		if r, e := Run(b, libs, "", 1); e != x.e || r != (api.Result{}) {
			t.Error(i, e, r)
		}
		// what Call checks comes behind that
		if r, e := Run(b, libs, "", 0); e != x.e || r != (api.Result{}) {
			t.Error(i, e, r)
		}
	}
}

// P13.1: where the images stand, and what their words are.
func TestMemory(t *testing.T) {
	// 9 bytes, and then 8 behind 3 free ones: words of the program at its beginning, in code at no multiple of 4, and at its end
	b := program("a/o main code 0 0 jump @a/l!a/o:d 5 6", "a/l!a/o d data $lib/s:f @a/o:main")
	libs := []api.Library{
		library("lib/s", "s/o g data @s/o:f 7", "s/o f code 0 1 push @s/o:g return 3 4"),
		library("lib/e", "s/o e data"),
		library("lib/o", "s/o f code 1 2 3"),
		library("lib/z", "s/o z data @s/o:z"),
	}
	m := loaded(t, b, libs...)
	hasBytes(t, m, strings.Repeat("\x00", 64)+
		"\x00\x00\x0a"+wordOf(64+12)+"\x05\x06\x00\x00\x00"+wordOf(84+8)+wordOf(64)+
		wordOf(84+8)+wordOf(7)+"\x00\x01\x01"+wordOf(84)+"\x0d\x03\x04\x00\x00"+
		"\x01\x02\x03\x00"+
		wordOf(108))
	for _, at := range []uint32{1 << 31, 1<<32 - 1, 1<<32 - 4, 1<<32 - 3, 1 << 16} {
		if w, e := m.Word(at); w != 0 || e != api.ErrRange {
			t.Error(at, w, e)
		}
	}
	for _, x := range []struct {
		object, symbol string
		address        uint32
		found          bool
	}{{"a/o", "main", 64, true}, {"a/l!a/o", "d", 76, true}, {"a/o", "d", 0, false}, {"a/l!a/o", "main", 0, false}, {"s/o", "f", 0, false}, {"lib/s", "f", 0, false}, {"", "", 0, false}, {"a/o:main", "", 0, false}} {
		if address, found := m.Address(x.object, x.symbol); address != x.address || found != x.found {
			t.Error(x, address, found)
		}
	}
}

// P13.1: words of imports and fixups at the beginning and the end of an image, side by side, and an import of what has no bytes, behind all of the memory.
func TestWordsAtEnds(t *testing.T) {
	zeros := strings.Repeat("\x00", 64)
	libs := []api.Library{library("lib/s", "s/o f code 0 0 13", "s/o d data 9"), library("lib/e", "s/o none data")}
	m := loaded(t, program("a/o main code $lib/s:d 5 6 7 @a/o:main $lib/s:f"), libs...)
	hasBytes(t, m, zeros+wordOf(84)+"\x05\x06\x07"+wordOf(64)+wordOf(80)+"\x00"+"\x00\x00\x0d\x00"+wordOf(9))
	m = loaded(t, program("a/o main code @a/o:main $lib/e:none @a/o:d", "a/o d data $lib/e:none $lib/s:f $lib/s:f @a/o:d"), libs...)
	hasBytes(t, m, zeros+wordOf(64)+wordOf(100)+wordOf(76)+wordOf(100)+wordOf(92)+wordOf(92)+wordOf(76)+"\x00\x00\x0d\x00"+wordOf(9))
	// an image of two bytes alone
	hasBytes(t, loaded(t, program("a/o main code 3 7")), zeros+"\x03\x07\x00\x00")
	// a word that is the address of the function itself makes a head of it
	if r, e := m.Call(64, "", 1); e != api.ErrMismatch || r != (api.Result{}) {
		t.Error(r, e)
	}
}

// P13.1: of two libraries with one symbol the import has that of its library; symbols are no names of objects.
func TestSameSymbols(t *testing.T) {
	b := program("s/o f code 0 0 push $lib/q:f load out push $lib/s:f load out push @s/o:f return", "s/o d data")
	for i, libs := range [][]api.Library{
		{library("lib/s", "s/o f data 65"), library("lib/q", "s/o f data 66")},
		{library("lib/q", "s/o f data 66"), library("lib/p", "s/o f data 67"), library("lib/s", "s/o f data 65")},
	} {
		if r, e := Run(b, libs, "", 10); e != api.OK || r != (api.Result{Value: 64, Output: "BA", Steps: 8}) {
			t.Error(i, r, e)
		}
	}
}

// P13.1: of MaxFiles libraries each stands where it has to, also the largest ones.
func TestManyLibraries(t *testing.T) {
	var libs []api.Library
	for _, l := range libraries(api.MaxFiles) {
		for len(l.Binary.Places) < 8 {
			l.Binary.Places = append(l.Binary.Places, api.Placed{Object: "s/o", Symbol: "p" + string(rune('a'+len(l.Binary.Places))), Kind: api.SectionData, At: 4 + 8192*(len(l.Binary.Places)-1), Size: 8192})
		}
		l.Binary.Image += strings.Repeat("\x01", 7*8192)
		libs = append(libs, l)
	}
	m := loaded(t, program("a/o main code 0 0 push $lib/s63:d load return"), libs...)
	if got := len(words(m)); got != (64+12+64*(4+7*8192))/4 {
		t.Error(got)
	}
	if r, e := m.Call(64, "", 3); e != api.OK || r.Value != 63 {
		t.Error(r, e)
	}
	for i := range libs {
		if w, e := m.Word(uint32(76 + i*(4+7*8192))); e != api.OK || w != uint32(i) {
			t.Error(i, w, e)
		}
	}
}

// P13.1: a clone has the same memory and the same places, and what is stored in one of both is not stored in the other one.
func TestClone(t *testing.T) {
	m := loaded(t, program("a/o main code 2 2 get 0 get 1 store push 1 return", "a/o d data 5"))
	at, _ := m.Address("a/o", "d")
	store := func(m *Machine, w uint32) {
		t.Helper()
		if r, e := m.Call(64, "", 5, at, w); e != api.OK || r.Value != 1 {
			t.Error(r, e)
		}
	}
	has := func(m *Machine, want uint32) {
		t.Helper()
		if w, e := m.Word(at); e != api.OK || w != want {
			t.Error(w, e, want)
		}
	}
	store(m, 6)
	a := m.Clone()
	b := a.Clone()
	has(a, 6)
	store(m, 7)
	store(b, 8)
	has(m, 7)
	has(a, 6)
	has(b, 8)
	store(a, 9)
	has(m, 7)
	has(a, 9)
	has(b, 8)
	for _, x := range []*Machine{a, b} {
		if address, found := x.Address("a/o", "main"); address != 64 || !found || len(words(x)) != len(words(m)) {
			t.Error(address, found)
		}
	}
}

// P13.1: each call of Load starts from the beginning, and arguments are not changed.
func TestLoadAgain(t *testing.T) {
	b := program("a/o main code 0 0 push @a/o:d push 3 store push $lib/s:d push 4 store push 0 return", "a/o d data 5")
	libs := []api.Library{library("lib/s", "s/o d data 6")}
	before := show(b, libs)
	for range 2 {
		m := loaded(t, b, libs...)
		d, _ := m.Address("a/o", "d")
		if w, _ := m.Word(d); w != 5 {
			t.Error(w)
		}
		if _, e := m.Call(64, "", 100); e != api.OK {
			t.Error(e)
		}
		l := words(m)
		if w, _ := m.Word(d); w != 3 || l[len(l)-1] != 4 || show(b, libs) != before {
			t.Error(l, show(b, libs))
		}
		b.Places[0].Object, b.Places[1].Object = b.Places[1].Object, b.Places[0].Object
		if address, found := m.Address("a/o", "d"); address != d || !found {
			t.Error(address, found)
		}
	}
}

// P1: a machine that was not loaded has no memory.
func TestEmptyMachine(t *testing.T) {
	m := (&Machine{}).Clone()
	if _, found := m.Address("", ""); found {
		t.Error(found)
	}
	if _, e := m.Word(0); e != api.ErrRange {
		t.Error(e)
	}
	if _, e := m.Call(0, "", 1); e != api.ErrRange {
		t.Error(e)
	}
}
