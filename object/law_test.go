package object

import (
	"math/rand"
	"slices"
	"strconv"
	"strings"
	"testing"

	"licit/api"
	"licit/compile"
	"licit/token"
)

// holds says whether an object is valid, by the words of the definition.
func holds(o api.Object) bool {
	if len(o.Symbols) > 128 || len(o.Sections) > 128 {
		return false
	}
	for i, s := range o.Symbols {
		for _, other := range o.Symbols[:i] {
			if other.Name == s.Name {
				return false
			}
		}
		index := s.Section >= 0 && s.Section < len(o.Sections)
		if !token.Name(s.Name) || s.Mode < 0 || s.Mode > 3 || s.Section != -1 && !index || s.Mode == api.Extern && index || (s.Mode == api.Export || s.Mode == api.Weak) && !index {
			return false
		}
	}
	for i, s := range o.Sections {
		owners := 0
		for _, x := range o.Symbols {
			if x.Section == i {
				owners++
			}
		}
		isCode := s.Kind == api.SectionCode && len(s.Data) >= 2 && len(s.Data) <= 8192
		isData := s.Kind == api.SectionData && len(s.Data) <= 8192 && len(s.Data)%4 == 0
		if owners != 1 || !isCode && !isData {
			return false
		}
		for k, r := range s.Relocs {
			named := slices.ContainsFunc(o.Symbols, func(x api.Symbol) bool { return x.Name == r.Symbol })
			if r.At < 0 || r.At+4 > len(s.Data) || strings.Trim(s.Data[r.At:r.At+4], "\x00") != "" || k > 0 && r.At-s.Relocs[k-1].At < 4 || !named {
				return false
			}
		}
	}
	return true
}

// random returns a small random object that is nearly valid.
func random(r *rand.Rand) api.Object {
	var o api.Object
	section := 0
	for i := range r.Intn(5) {
		s := api.Symbol{Name: "s" + strconv.Itoa(i), Mode: r.Intn(4), Section: -1}
		if s.Mode == api.Export || s.Mode == api.Weak || s.Mode == api.Private && r.Intn(2) == 0 {
			s.Section = section
			section++
		}
		o.Symbols = append(o.Symbols, s)
	}
	for range section {
		s := api.Section{Kind: 1 + r.Intn(2), Data: strings.Repeat("\x00", 4*r.Intn(4))}
		if s.Kind == api.SectionCode {
			s.Data = "a" + strings.Repeat("\x00", 1+r.Intn(12))
		}
		at := r.Intn(3) * (2 - s.Kind)
		for at+4 <= len(s.Data) {
			if s.Data[at] == 0 && r.Intn(2) == 0 {
				s.Relocs = append(s.Relocs, api.Reloc{At: at, Symbol: o.Symbols[r.Intn(len(o.Symbols))].Name})
			}
			at += 4
		}
		o.Sections = append(o.Sections, s)
	}
	r.Shuffle(len(o.Symbols), func(i, j int) { o.Symbols[i], o.Symbols[j] = o.Symbols[j], o.Symbols[i] })
	return o
}

// change changes something of an object.
func change(r *rand.Rand, o api.Object) {
	numbers := []int{-2, -1, 0, 1, 2, 3, 4, 5, 8}
	if len(o.Sections) > 0 && r.Intn(2) == 0 {
		s := &o.Sections[r.Intn(len(o.Sections))]
		switch k := r.Intn(4); {
		case k == 0:
			s.Kind = r.Intn(4)
		case k == 1:
			s.Data = s.Data[:r.Intn(len(s.Data)+1)]
		case k == 2 && len(s.Relocs) > 0:
			s.Relocs[r.Intn(len(s.Relocs))] = api.Reloc{At: numbers[r.Intn(9)], Symbol: "s" + strconv.Itoa(r.Intn(6))}
		case len(s.Data) > 0:
			at := r.Intn(len(s.Data))
			s.Data = s.Data[:at] + "x" + s.Data[at+1:]
		}
		return
	}
	if len(o.Symbols) > 0 {
		s := &o.Symbols[r.Intn(len(o.Symbols))]
		switch r.Intn(3) {
		case 0:
			s.Name = []string{"s0", "s1", "", "let", "A", "t"}[r.Intn(6)]
		case 1:
			s.Mode = r.Intn(6) - 1
		case 2:
			s.Section = numbers[r.Intn(9)]
		}
	}
}

// P10.1, P10.3 and P10.5: random objects are valid as the definition says; those that are valid have bytes, which lead back to them.
func TestCheckByDefinition(t *testing.T) {
	r := rand.New(rand.NewSource(1))
	valid := 0
	for range 40000 {
		o := random(r)
		for range r.Intn(3) {
			change(r, o)
		}
		want := api.ErrArg
		if holds(o) {
			want = api.OK
			valid++
		}
		text, e := Encode(o)
		if Check(o) != want || e != want || (e == api.OK) != (text != "") {
			t.Fatal(o, Check(o), e)
		}
		back, e := Decode(text)
		if want == api.OK && (e != api.OK || !same(o, back)) {
			t.Fatal(o, e, back)
		}
		if want != api.OK && e != api.ErrCorrupt {
			t.Fatal(e)
		}
	}
	if valid < 5000 || valid > 35000 {
		t.Error(valid)
	}
}

// edit changes, adds or removes some bytes of a string.
func edit(r *rand.Rand, text string) string {
	at := r.Intn(len(text) + 1)
	end := min(len(text), at+r.Intn(2))
	return text[:at] + []string{"", "", "0", "1", "2", "3", ";", ",", ":", "a", "\x00", "-"}[r.Intn(12)] + text[end:]
}

// P10.5: whatever can be decoded or unpacked has just these bytes, and no string can be both.
func TestEditedBytes(t *testing.T) {
	r := rand.New(rand.NewSource(2))
	decoded, unpacked := 0, 0
	for range 60000 {
		o := random(r)
		text, _ := Encode(o)
		packed, e := Pack([]api.Member{{Name: "a", Object: o}, {Name: "b", Object: random(r)}})
		if e != api.OK {
			t.Fatal(o, e)
		}
		for range 1 + r.Intn(2) {
			text, packed = edit(r, text), edit(r, packed)
		}
		for _, s := range []string{text, packed} {
			o, e := Decode(s)
			l, e2 := Unpack(s)
			if e == api.OK && e2 == api.OK {
				t.Fatalf("%q", s)
			}
			if e == api.OK {
				decoded++
				if back, e := Encode(o); e != api.OK || back != s || !holds(o) {
					t.Fatalf("%q %q", s, back)
				}
			} else if e != api.ErrCorrupt || !isEmpty(o) {
				t.Fatal(e, o)
			}
			if e2 == api.OK {
				unpacked++
				if back, e := Pack(l); e != api.OK || back != s {
					t.Fatalf("%q %q", s, back)
				}
			} else if e2 != api.ErrCorrupt || len(l) != 0 {
				t.Fatal(e2, l)
			}
		}
	}
	if decoded < 1000 || unpacked < 1000 {
		t.Error(decoded, unpacked)
	}
}

// P10.5: Unpack undoes Pack.
func TestUnpackUndoesPack(t *testing.T) {
	r := rand.New(rand.NewSource(3))
	for range 3000 {
		var l []api.Member
		for _, i := range r.Perm(r.Intn(6)) {
			l = append(l, api.Member{Name: "d/m" + strconv.Itoa(i), Object: random(r)})
		}
		text, e := Pack(l)
		back, e2 := Unpack(text)
		if e != api.OK || e2 != api.OK || !sameMembers(l, back) {
			t.Fatal(l, e, e2, back)
		}
		if o, e := Decode(text); e != api.ErrCorrupt || !isEmpty(o) {
			t.Fatal(l, e)
		}
		for _, m := range l {
			text, _ := Encode(m.Object)
			if l, e := Unpack(text); e != api.ErrCorrupt || len(l) != 0 {
				t.Fatal(m, e)
			}
		}
	}
}

// P10.5: objects that are compiled are valid.
func TestCompiledObjects(t *testing.T) {
	full := "1" + strings.Repeat(",1", 127)
	for _, text := range []string{
		"",
		"extern e\nfn unused 1\n?\ndata also 1\n?",
		"extern e\nexport fn f x y 3\nlet a = e\nif a(x) + f(y, g) 1\nreturn d\nweak fn g 0\ndata d 2\n1, f, e, d\n\ndata empty 0",
		"export fn f x 2\nwhile 1 1\nstore x = f",
		"export data d 0\nweak data k 1\nd\nexport fn f 0",
		"define n 1\n" + full + "\nexport data d 16\n" + strings.Repeat("n\n", 16),
		"export fn f x 17\n" + strings.Repeat("do x"+strings.Repeat("-x", 118)+"\n", 17),
		"export data d 1\nd" + strings.Repeat(",d", 127),
	} {
		o, _, f := compile.Unit(api.Tree{{Path: "a/m", Data: text}}, "a/m", nil)
		if f.Error != api.OK || Check(o) != api.OK || !holds(o) {
			t.Error(text[:min(len(text), 80)], f, Check(o))
		}
		bytes, e := Encode(o)
		if back, e2 := Decode(bytes); e != api.OK || e2 != api.OK || !same(o, back) {
			t.Error(e, e2)
		}
	}
	// as many items as a unit can have
	text := ""
	for i := range api.MaxSymbols {
		text += "export fn f" + strconv.Itoa(i) + " 1\ndo f0\n"
	}
	o, _, f := compile.Unit(api.Tree{{Path: "a/m", Data: text}}, "a/m", nil)
	if f.Error != api.OK || len(o.Sections) != api.MaxSections || Check(o) != api.OK {
		t.Error(f, Check(o))
	}
}

// P10.2 and P1: all functions can be called with any object, and any string.
func TestAnyArguments(t *testing.T) {
	r := rand.New(rand.NewSource(4))
	names := []string{"", "a", "b", "?", "let"}
	number := func() int { return []int{-1 << 63, -1, 0, 1, 2, 3, 1 << 32, 1<<63 - 1}[r.Intn(8)] }
	for range 20000 {
		var o api.Object
		for range r.Intn(5) {
			o.Symbols = append(o.Symbols, api.Symbol{Name: names[r.Intn(5)], Mode: number(), Section: number()})
		}
		for range r.Intn(3) {
			s := api.Section{Kind: number(), Data: strings.Repeat("\x00", r.Intn(10))}
			for range r.Intn(3) {
				s.Relocs = append(s.Relocs, api.Reloc{At: number(), Symbol: names[r.Intn(5)]})
			}
			o.Sections = append(o.Sections, s)
		}
		// the first symbol, and each exported name once
		for _, name := range names {
			s, found := Find(o, name)
			at := slices.IndexFunc(o.Symbols, func(x api.Symbol) bool { return x.Name == name })
			if found != (at >= 0) || found && s != o.Symbols[at] || !found && s != (api.Symbol{}) {
				t.Fatal(o, name, s)
			}
			exported := slices.ContainsFunc(o.Symbols, func(x api.Symbol) bool { return x.Name == name && (x.Mode == 1 || x.Mode == 2) })
			if slices.Contains(Exports(o), name) != exported {
				t.Fatal(o, name, Exports(o))
			}
		}
		exports := Exports(o)
		for i := 1; i < len(exports); i++ {
			if exports[i-1] >= exports[i] {
				t.Fatal(exports)
			}
		}
		for i := range o.Sections {
			var want []string
			for _, r := range o.Sections[i].Relocs {
				if !slices.Contains(want, r.Symbol) {
					want = append(want, r.Symbol)
				}
			}
			if l := Needs(o, i); !slices.Equal(l, want) {
				t.Fatal(o, l)
			}
		}
		want := api.ErrArg
		if holdsSafely(o) {
			want = api.OK
		}
		if Check(o) != want || len(Needs(o, number())) > 3 {
			t.Fatal(o, Check(o))
		}
	}
}

// holdsSafely says whether an object is valid, also if its numbers are so great that they cannot be added.
func holdsSafely(o api.Object) bool {
	for _, s := range o.Sections {
		for _, r := range s.Relocs {
			if r.At > api.MaxCode {
				return false
			}
		}
	}
	return holds(o)
}
