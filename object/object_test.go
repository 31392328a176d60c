package object

import (
	"slices"
	"strconv"
	"strings"
	"testing"

	"licit/api"
)

// zeros is a word that is 0.
const zeros = "\x00\x00\x00\x00"

// example is the object of the chapter.
func example() api.Object {
	return api.Object{
		Symbols:  []api.Symbol{{Name: "f", Mode: api.Export, Section: 0}},
		Sections: []api.Section{{Kind: api.SectionData, Data: zeros, Relocs: []api.Reloc{{At: 0, Symbol: "f"}}}},
	}
}

// full returns an object with all modes and kinds.
func full() api.Object {
	return api.Object{
		Symbols: []api.Symbol{{Name: "main", Mode: api.Export, Section: 2}, {Name: "e", Mode: api.Extern, Section: -1}, {Name: "d", Mode: api.Weak, Section: 0}, {Name: "unused", Mode: api.Private, Section: -1}, {Name: "h", Mode: api.Private, Section: 1}},
		Sections: []api.Section{
			{Kind: api.SectionData},
			{Kind: api.SectionCode, Data: "\x00\x00"},
			{Kind: api.SectionCode, Data: "\x01" + zeros + zeros + "x" + zeros, Relocs: []api.Reloc{{At: 1, Symbol: "h"}, {At: 5, Symbol: "e"}, {At: 10, Symbol: "h"}}},
		},
	}
}

// same says whether two objects are equal.
func same(a, b api.Object) bool {
	return slices.Equal(a.Symbols, b.Symbols) && slices.EqualFunc(a.Sections, b.Sections, func(s, t api.Section) bool {
		return s.Kind == t.Kind && s.Data == t.Data && slices.Equal(s.Relocs, t.Relocs)
	})
}

// isEmpty says whether an object is zero.
func isEmpty(o api.Object) bool { return len(o.Symbols)+len(o.Sections) == 0 }

// symbols returns n private symbols without sections.
func symbols(n int) []api.Symbol {
	var l []api.Symbol
	for i := range n {
		l = append(l, api.Symbol{Name: "s" + strconv.Itoa(i), Section: -1})
	}
	return l
}

// sections returns an object with n sections of some data, each of a symbol.
func sections(n int, data string) api.Object {
	o := api.Object{Symbols: symbols(n)}
	for i := range n {
		o.Symbols[i].Section = i
		o.Sections = append(o.Sections, api.Section{Kind: api.SectionData, Data: data})
	}
	return o
}

// P10.1: valid objects, and each condition of one, and its opposite.
func TestCheck(t *testing.T) {
	names := func(list ...string) api.Object {
		var o api.Object
		for _, name := range list {
			o.Symbols = append(o.Symbols, api.Symbol{Name: name, Section: -1})
		}
		return o
	}
	one := func(mode, section int) api.Object {
		return api.Object{Symbols: []api.Symbol{{Name: "f", Mode: mode, Section: section}}, Sections: []api.Section{{Kind: api.SectionData}}[:max(0, min(1, section+1))]}
	}
	of := func(kind int, data string, relocs ...api.Reloc) api.Object {
		return api.Object{Symbols: []api.Symbol{{Name: "f"}, {Name: "g", Section: -1}}, Sections: []api.Section{{Kind: kind, Data: data, Relocs: relocs}}}
	}
	owners := func(n int, owned ...int) api.Object {
		o := sections(n, "")
		o.Symbols = symbols(len(owned))
		for i, s := range owned {
			o.Symbols[i].Section = s
		}
		return o
	}
	code, data := api.SectionCode, api.SectionData
	for i, x := range []struct {
		o     api.Object
		valid bool
	}{
		{api.Object{}, true}, {example(), true}, {full(), true},
		// how many symbols and sections
		{api.Object{Symbols: symbols(api.MaxSymbols)}, true}, {api.Object{Symbols: symbols(api.MaxSymbols + 1)}, false},
		{sections(api.MaxSections, zeros), true}, {sections(api.MaxSections+1, zeros), false},
		{api.Object{Symbols: symbols(api.MaxSymbols), Sections: sections(api.MaxSections+1, "").Sections}, false},
		// names
		{names("a", "_", "x1", strings.Repeat("n", api.MaxName)), true}, {names(strings.Repeat("n", api.MaxName+1)), false}, {names(""), false}, {names("A"), false}, {names("1"), false}, {names("let"), false}, {names("data"), false}, {names("a.b"), false}, {names("a", "b", "a"), false}, {names("a", "a"), false},
		// modes, with a section and without
		{one(api.Private, -1), true}, {one(api.Private, 0), true}, {one(api.Export, 0), true}, {one(api.Export, -1), false}, {one(api.Weak, 0), true}, {one(api.Weak, -1), false}, {one(api.Extern, -1), true}, {one(api.Extern, 0), false},
		{one(-1, -1), false}, {one(-1, 0), false}, {one(4, -1), false}, {one(4, 0), false}, {one(-1<<63, 0), false},
		// whose the sections are
		{owners(0, -1, -1), true}, {owners(1, 0), true}, {owners(1, -1, 0), true}, {owners(2, 1, 0), true}, {owners(2, 1, -1, 0), true}, {owners(3, 2, 0, 1), true},
		{owners(1, -1), false}, {owners(1), false}, {owners(2, 0, 0), false}, {owners(1, 0, 0), false}, {owners(2, 0), false}, {owners(2, 0, 1, 0), false}, {owners(0, 0), false}, {owners(1, 1), false}, {owners(1, 0, 1), false}, {owners(1, 0, -2), false}, {owners(1, -2), false}, {owners(2, 0, 1<<62), false}, {owners(1, 0, -1<<63), false},
		// kinds and sizes
		{of(code, "ab"), true}, {of(code, "abc"), true}, {of(code, strings.Repeat("x", api.MaxCode)), true}, {of(code, ""), false}, {of(code, "a"), false}, {of(code, strings.Repeat("x", api.MaxCode+1)), false},
		{of(data, ""), true}, {of(data, "abcd"), true}, {of(data, strings.Repeat("x", api.MaxCode)), true}, {of(data, "ab"), false}, {of(data, "abc"), false}, {of(data, "abcde"), false}, {of(data, strings.Repeat("x", api.MaxCode+4)), false}, {of(data, strings.Repeat("x", api.MaxCode+1)), false},
		{of(0, "abcd"), false}, {of(3, "abcd"), false}, {of(-1, "abcd"), false}, {of(0, ""), false},
		// relocations: where they are
		{of(code, "ab"+zeros, api.Reloc{At: 2, Symbol: "f"}), true}, {of(code, "a"+zeros+"b", api.Reloc{At: 1, Symbol: "g"}), true}, {of(code, zeros+"b", api.Reloc{At: 0, Symbol: "g"}), true},
		{of(data, zeros, api.Reloc{At: -1, Symbol: "f"}), false}, {of(data, zeros, api.Reloc{At: 1, Symbol: "f"}), false}, {of(data, zeros, api.Reloc{At: 4, Symbol: "f"}), false}, {of(data, "", api.Reloc{At: 0, Symbol: "f"}), false}, {of(code, "\x00\x00\x00", api.Reloc{At: 0, Symbol: "f"}), false},
		{of(data, zeros, api.Reloc{At: 1<<63 - 1, Symbol: "f"}), false}, {of(data, zeros, api.Reloc{At: -1 << 63, Symbol: "f"}), false}, {of(data, zeros, api.Reloc{At: 1<<63 - 4, Symbol: "f"}), false},
		// what stands there
		{of(data, "\x01\x00\x00\x00", api.Reloc{At: 0, Symbol: "f"}), false}, {of(data, "\x00\x01\x00\x00", api.Reloc{At: 0, Symbol: "f"}), false}, {of(data, "\x00\x00\x01\x00", api.Reloc{At: 0, Symbol: "f"}), false}, {of(data, "\x00\x00\x00\x01", api.Reloc{At: 0, Symbol: "f"}), false}, {of(code, "a"+zeros+"b", api.Reloc{At: 2, Symbol: "f"}), false}, {of(code, "a"+zeros+"b", api.Reloc{At: 0, Symbol: "f"}), false},
		// how far they are from each other
		{of(data, zeros+zeros, api.Reloc{At: 0, Symbol: "f"}, api.Reloc{At: 4, Symbol: "f"}), true}, {of(code, zeros+zeros+"x", api.Reloc{At: 0, Symbol: "f"}, api.Reloc{At: 4, Symbol: "g"}), true}, {of(code, zeros+"\x00"+zeros, api.Reloc{At: 0, Symbol: "f"}, api.Reloc{At: 5, Symbol: "g"}), true},
		{of(data, zeros+zeros, api.Reloc{At: 0, Symbol: "f"}, api.Reloc{At: 3, Symbol: "f"}), false}, {of(data, zeros+zeros, api.Reloc{At: 4, Symbol: "f"}, api.Reloc{At: 0, Symbol: "f"}), false}, {of(data, zeros, api.Reloc{At: 0, Symbol: "f"}, api.Reloc{At: 0, Symbol: "f"}), false}, {of(data, zeros+zeros, api.Reloc{At: 1, Symbol: "f"}, api.Reloc{At: 4, Symbol: "f"}), false},
		// which symbols they have
		{of(data, zeros, api.Reloc{At: 0, Symbol: "h"}), false}, {of(data, zeros, api.Reloc{At: 0, Symbol: ""}), false}, {of(data, zeros+zeros, api.Reloc{At: 0, Symbol: "g"}, api.Reloc{At: 4, Symbol: "F"}), false},
	} {
		want := map[bool]api.Errno{true: api.OK, false: api.ErrArg}[x.valid]
		if e := Check(x.o); e != want {
			t.Error(i, e, x.o)
		}
		// what is valid for Check is so for all
		if text, e := Encode(x.o); e != want || x.valid != (text != "") {
			t.Error(i, e, len(text))
		}
		if text, e := Pack([]api.Member{{Name: "a", Object: x.o}}); e != want || x.valid != (text != "") {
			t.Error(i, e, len(text))
		}
	}
}

// P10.1: the most relocations that a section can have.
func TestManyRelocs(t *testing.T) {
	n := api.MaxCode / 4
	o := example()
	o.Sections[0] = api.Section{Kind: api.SectionData, Data: strings.Repeat(zeros, n)}
	for i := range n {
		o.Sections[0].Relocs = append(o.Sections[0].Relocs, api.Reloc{At: 4 * i, Symbol: "f"})
	}
	text, e := Encode(o)
	if Check(o) != api.OK || e != api.OK {
		t.Error(Check(o), e)
	}
	if back, e := Decode(text); e != api.OK || !same(o, back) {
		t.Error(e)
	}
	o.Sections[0].Relocs = append(o.Sections[0].Relocs, api.Reloc{At: 4 * n, Symbol: "f"})
	if e := Check(o); e != api.ErrArg {
		t.Error(e)
	}
}

// anyObject returns an object that is not valid: names occur twice, sections do not exist, or belong to none.
func anyObject() api.Object {
	return api.Object{
		Symbols:  []api.Symbol{{Name: "b", Mode: api.Weak, Section: 7}, {Name: "?", Mode: api.Export, Section: -5}, {Name: "b", Mode: api.Export}, {Name: "a", Mode: api.Export}, {Name: "c", Mode: api.Private}, {Name: "x", Mode: api.Extern, Section: 1}, {Name: "", Mode: 4}, {Name: "Z", Mode: -1}, {Name: "a", Mode: api.Weak}, {Name: "", Mode: api.Weak, Section: 3}},
		Sections: []api.Section{{Kind: 9}, {Relocs: []api.Reloc{{At: 9, Symbol: "b"}, {At: -1, Symbol: "?"}, {At: 3, Symbol: "b"}, {Symbol: "zz"}, {Symbol: ""}, {Symbol: "?"}, {Symbol: ""}}}},
	}
}

// P10.2: the first symbol with a name.
func TestFind(t *testing.T) {
	for _, x := range []struct {
		o    api.Object
		name string
		at   int
	}{
		{example(), "f", 0}, {example(), "g", -1}, {example(), "", -1}, {example(), "F", -1},
		{full(), "main", 0}, {full(), "e", 1}, {full(), "d", 2}, {full(), "unused", 3}, {full(), "h", 4}, {full(), "hh", -1},
		{anyObject(), "b", 0}, {anyObject(), "?", 1}, {anyObject(), "a", 3}, {anyObject(), "", 6}, {anyObject(), "Z", 7}, {anyObject(), "zz", -1},
		{api.Object{}, "", -1}, {api.Object{}, "f", -1},
	} {
		s, found := Find(x.o, x.name)
		want := api.Symbol{}
		if x.at >= 0 {
			want = x.o.Symbols[x.at]
		}
		if s != want || found != (x.at >= 0) {
			t.Error(x.name, s, found)
		}
	}
}

// P10.2: the names of symbols that others can find, and those that a section asks for.
func TestExportsAndNeeds(t *testing.T) {
	for i, x := range []struct {
		o    api.Object
		want string
	}{
		{api.Object{}, ""}, {example(), "f"}, {full(), "d main"}, {anyObject(), " ? a b"}, {api.Object{Symbols: symbols(5)}, ""},
		{api.Object{Symbols: []api.Symbol{{Name: "b", Mode: api.Export}, {Name: "a1", Mode: api.Weak}, {Name: "a", Mode: api.Export}, {Name: "_", Mode: api.Weak}}}, "_ a a1 b"},
	} {
		if names := Exports(x.o); strings.Join(names, " ") != x.want || x.want == "" && len(names) != 0 {
			t.Error(i, names)
		}
	}
	for _, x := range []struct {
		o       api.Object
		section int
		want    []string
	}{
		{example(), 0, []string{"f"}}, {example(), 1, nil}, {example(), -1, nil}, {example(), -1 << 63, nil}, {example(), 1<<63 - 1, nil}, {api.Object{}, 0, nil},
		{full(), 0, nil}, {full(), 1, nil}, {full(), 2, []string{"h", "e"}}, {full(), 3, nil},
		{anyObject(), 0, nil}, {anyObject(), 1, []string{"b", "?", "zz", ""}}, {anyObject(), 2, nil},
	} {
		if names := Needs(x.o, x.section); !slices.Equal(names, x.want) {
			t.Error(x.section, names)
		}
	}
}

// P10.2: results are new, and arguments are not changed.
func TestResultsAreNew(t *testing.T) {
	o := full()
	s, _ := Find(o, "main")
	s.Name = "x"
	slices.Reverse(Exports(o))
	Needs(o, 2)[0] = "x"
	text, _ := Encode(o)
	back, e := Decode(text)
	if e != api.OK || !same(o, full()) || !same(back, o) {
		t.Error(o, e)
	}
	back.Symbols[0], back.Sections[2].Relocs[0] = api.Symbol{}, api.Reloc{}
	if again, _ := Decode(text); !same(again, full()) {
		t.Error(again)
	}
	a := anyObject()
	if _, e := Encode(a); e != api.ErrArg || !same(a, anyObject()) {
		t.Error(e, a)
	}
	Exports(a)
	if !same(a, anyObject()) {
		t.Error(a)
	}
}
