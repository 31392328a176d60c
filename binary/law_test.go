package binary

import (
	"fmt"
	"math/rand"
	"slices"
	"strings"
	"testing"

	"licit/api"
	"licit/compile"
	"licit/link"
	"licit/token"
	"licit/tree"
)

// holdsPlaces says whether places and image are valid, by the words of the definition.
func holdsPlaces(b api.Binary) bool {
	if len(b.Places) < 1 || len(b.Places) > 128 || len(b.Image) > 65536 {
		return false
	}
	free := make([]bool, len(b.Image))
	for i := range free {
		free[i] = true
	}
	next := 0
	for i, p := range b.Places {
		names := strings.Split(p.Object, "!")
		if len(names) > 2 || slices.ContainsFunc(names, func(s string) bool { return tree.Path(s) != api.OK }) || !token.Name(p.Symbol) {
			return false
		}
		for _, q := range b.Places[:i] {
			if p.Object == q.Object && p.Symbol == q.Symbol {
				return false
			}
		}
		isCode := p.Kind == api.SectionCode && p.Size >= 2 && p.Size <= 8192
		isData := p.Kind == api.SectionData && p.Size >= 0 && p.Size <= 8192 && p.Size%4 == 0
		if !isCode && !isData || p.At != next || p.At+p.Size > len(b.Image) {
			return false
		}
		for k := range p.Size {
			free[p.At+k] = false
		}
		next = p.At + p.Size
		for next%4 != 0 {
			next++
		}
	}
	last := b.Places[len(b.Places)-1]
	for i, is := range free {
		if is && b.Image[i] != 0 {
			return false
		}
	}
	return last.At+last.Size == len(b.Image)
}

// holdsWords says whether fixups and imports are valid, by the words of the definition, if the places are.
func holdsWords(b api.Binary) bool {
	owners := map[int]int{}
	for i, p := range b.Places {
		for k := range p.Size {
			owners[p.At+k] = i
		}
	}
	taken := map[int]bool{}
	take := func(at int) bool {
		for k := at; k < at+4; k++ {
			owner, found := owners[k]
			if !found || owner != owners[at] || taken[k] {
				return false
			}
			taken[k] = true
		}
		return true
	}
	for i, at := range b.Fixups {
		if i > 0 && at <= b.Fixups[i-1] || !take(at) || !slices.ContainsFunc(b.Places, func(p api.Placed) bool { return wordOf(p.At) == b.Image[at:at+4] }) {
			return false
		}
	}
	for i, x := range b.Imports {
		if i > 0 && x.At <= b.Imports[i-1].At || !take(x.At) || b.Image[x.At:x.At+4] != wordOf(0) || tree.Path(x.Library) != api.OK || !token.Name(x.Symbol) {
			return false
		}
	}
	return true
}

// holds says whether a binary is valid, by the words of the definition.
func holds(b api.Binary) bool {
	if !holdsPlaces(b) || !holdsWords(b) || len(b.Notes) > 64 {
		return false
	}
	for i, n := range b.Notes {
		if !token.Name(n.Name) || len(n.Text) > 65536 || slices.ContainsFunc(b.Notes[:i], func(m api.Note) bool { return m.Name == n.Name }) {
			return false
		}
	}
	if b.Kind == api.Program {
		return b.Entry == 0 && b.Places[0].Kind == api.SectionCode && len(b.Exports) == 0
	}
	for i, x := range b.Exports {
		if i > 0 && x.Symbol <= b.Exports[i-1].Symbol || !slices.ContainsFunc(b.Places, func(p api.Placed) bool { return p.Symbol == x.Symbol && p.At == x.At }) {
			return false
		}
	}
	return b.Kind == api.Shared && b.Entry == -1 && len(b.Imports) == 0
}

// random returns a small random binary that is valid.
func random(r *rand.Rand) api.Binary {
	b := api.Binary{Kind: 1 + r.Intn(2)}
	image := []byte{}
	for i := range 1 + r.Intn(4) {
		p := api.Placed{Object: []string{"o", "a!b"}[r.Intn(2)], Symbol: "abcd"[i : i+1], Kind: 1 + r.Intn(2), Size: 4 * r.Intn(5)}
		if p.Kind == api.SectionCode || i == 0 && b.Kind == api.Program {
			p.Kind, p.Size = api.SectionCode, 2+r.Intn(16)
		}
		for len(image)%4 != 0 {
			image = append(image, 0)
		}
		p.At = len(image)
		for range p.Size {
			image = append(image, byte(r.Intn(3)))
		}
		b.Places = append(b.Places, p)
	}
	for _, p := range b.Places {
		for at := p.At + r.Intn(4); at+4 <= p.At+p.Size; at += 4 + r.Intn(3) {
			switch target := b.Places[r.Intn(len(b.Places))].At; {
			case r.Intn(3) == 0:
				// neither
			case b.Kind == api.Program && r.Intn(2) == 0:
				copy(image[at:], wordOf(0))
				b.Imports = append(b.Imports, api.Import{Library: "l", Symbol: "s", At: at})
			default:
				copy(image[at:], wordOf(target))
				b.Fixups = append(b.Fixups, at)
			}
		}
		if b.Kind == api.Shared && r.Intn(2) == 0 {
			b.Exports = append(b.Exports, api.Exported{Symbol: p.Symbol, At: p.At})
		}
	}
	if b.Kind == api.Shared {
		b.Entry = -1
	}
	b.Image = string(image)
	b.Notes = notes(r.Intn(3), "t")
	return b
}

// change changes something of a binary.
func change(r *rand.Rand, b *api.Binary) {
	number := func() int { return []int{-4, -1, 0, 1, 2, 3, 4, 8, 12, 16}[r.Intn(10)] }
	name := func() string { return []string{"a", "b", "c", "", "let", "A", "o", "a!b"}[r.Intn(8)] }
	switch k := r.Intn(10); {
	case k == 0:
		b.Kind = r.Intn(4)
	case k == 1:
		b.Entry = r.Intn(3) - 1
	case k == 2:
		at := r.Intn(len(b.Image) + 1)
		b.Image = b.Image[:at] + []string{"", "\x00", "x", wordOf(0)}[r.Intn(4)] + b.Image[min(len(b.Image), at+r.Intn(2)):]
	case k == 3:
		p := &b.Places[r.Intn(len(b.Places))]
		switch r.Intn(5) {
		case 0:
			p.Object = name()
		case 1:
			p.Symbol = name()
		case 2:
			p.Kind = r.Intn(4)
		case 3:
			p.At = number()
		case 4:
			p.Size = number()
		}
	case k == 4 && len(b.Fixups) > 0:
		b.Fixups[r.Intn(len(b.Fixups))] += r.Intn(9) - 4
	case k == 5 && len(b.Imports) > 0:
		b.Imports[r.Intn(len(b.Imports))] = api.Import{Library: name(), Symbol: name(), At: number()}
	case k == 6:
		b.Imports = append(b.Imports, api.Import{Library: "l", Symbol: "s", At: number()})
	case k == 7:
		b.Exports = append(b.Exports, api.Exported{Symbol: name(), At: number()})
	case k == 8:
		b.Notes = append(b.Notes, api.Note{Name: []string{"n0", "n7", "", "N"}[r.Intn(4)]})
	case k == 9:
		b.Places = b.Places[:r.Intn(len(b.Places))+1]
	}
}

// P12.1 and P12.4: random binaries are valid as the definition says; those that are valid have bytes, which lead back to them.
func TestCheckByDefinition(t *testing.T) {
	r := rand.New(rand.NewSource(1))
	valid := 0
	for i := range 40000 {
		b := random(r)
		changes := r.Intn(3)
		for range changes {
			change(r, &b)
		}
		is := holds(b)
		if changes == 0 && !is {
			t.Fatal(b)
		}
		checks(t, i, b, is)
		if t.Failed() {
			t.Fatal(b)
		}
		text, _ := Encode(b)
		back, e := Decode(text)
		if is {
			valid++
		}
		if is && (e != api.OK || !same(b, back)) || !is && e != api.ErrCorrupt {
			t.Fatal(b, e, back)
		}
		// bytes that are written by hand for what is not valid
		if back, e := Decode(bytesOf(b)); !is && (e != api.ErrCorrupt || !same(back, api.Binary{})) {
			t.Fatal(b, e, back)
		}
	}
	if valid < 10000 || valid > 35000 {
		t.Error(valid)
	}
}

// P12.4: whatever can be decoded has just these bytes.
func TestEditedBytes(t *testing.T) {
	r := rand.New(rand.NewSource(2))
	pieces := []string{"", "", "0", "1", "2", "3", "4", ";", ",", ":", "a", "\x00", "-", "0;", "1;"}
	decoded := 0
	for range 60000 {
		text, e := Encode(random(r))
		if e != api.OK {
			t.Fatal(e)
		}
		for range 1 + r.Intn(2) {
			at := r.Intn(len(text) + 1)
			text = text[:at] + pieces[r.Intn(len(pieces))] + text[min(len(text), at+r.Intn(3)):]
		}
		b, e := Decode(text)
		if e != api.OK {
			if e != api.ErrCorrupt || !same(b, api.Binary{}) {
				t.Fatalf("%q %v", text, e)
			}
			continue
		}
		decoded++
		if again, e := Encode(b); e != api.OK || again != text || !holds(b) {
			t.Fatalf("%q %q", text, again)
		}
	}
	if decoded < 1000 {
		t.Error(decoded)
	}
}

// P12.2 to P12.4: notes change neither plain bytes nor the stripped binary; each byte of a place belongs to it; and plain bytes are those of the image but for the fixups.
func TestConsequences(t *testing.T) {
	r := rand.New(rand.NewSource(3))
	for range 5000 {
		b := random(r)
		noted, e := Attach(b, api.Note{Name: "new", Text: "text"})
		text, found := Note(noted, "new")
		stripped, e2 := Strip(noted)
		plainStripped, e3 := Strip(b)
		if e != api.OK || e2 != api.OK || e3 != api.OK || text != "text" || !found || !same(stripped, plainStripped) || len(noted.Notes) != len(b.Notes)+1 {
			t.Fatal(b, noted)
		}
		for i, p := range b.Places {
			plain, e := Plain(b, i)
			again, e2 := Plain(noted, i)
			if e != api.OK || e2 != api.OK || plain != again || len(plain) != p.Size {
				t.Fatal(b, i, e, e2)
			}
			for k := range p.Size {
				at := p.At + k
				isWord := slices.ContainsFunc(b.Fixups, func(f int) bool { return at >= f && at < f+4 })
				if j, found := At(b, at); !found || j != i || isWord && plain[k] != 0 || !isWord && plain[k] != b.Image[at] {
					t.Fatal(b, i, k, j)
				}
			}
		}
		owned := 0
		for at := -5; at < len(b.Image)+5; at++ {
			if _, found := At(b, at); found {
				owned++
			}
		}
		for _, p := range b.Places {
			owned -= p.Size
		}
		if owned != 0 {
			t.Fatal(b, owned)
		}
	}
}

// sectionOf returns the section of a symbol of an object that is given by its name in a binary.
func sectionOf(t *testing.T, p api.Placed, objects []api.Member, shelves []api.Shelf) api.Section {
	l := slices.Clone(objects)
	for _, s := range shelves {
		for _, m := range s.Members {
			l = append(l, api.Member{Name: s.Path + "!" + m.Name, Object: m.Object})
		}
	}
	for _, m := range l {
		for _, s := range m.Object.Symbols {
			if m.Name == p.Object && s.Name == p.Symbol && s.Section >= 0 {
				return m.Object.Sections[s.Section]
			}
		}
	}
	t.Fatal(p)
	return api.Section{}
}

// linked checks a binary that was linked from objects and archives.
func linked(t *testing.T, b api.Binary, objects []api.Member, shelves []api.Shelf) {
	t.Helper()
	if Check(b) != api.OK || !holds(b) || len(b.Notes) != 0 {
		t.Fatal(b)
	}
	for i, p := range b.Places {
		s := sectionOf(t, p, objects, shelves)
		if plain, e := Plain(b, i); plain != s.Data || e != api.OK || p.Kind != s.Kind || p.Size != len(s.Data) {
			t.Fatal(p, e)
		}
	}
	text, e := Encode(b)
	if back, e2 := Decode(text); e != api.OK || e2 != api.OK || !same(b, back) {
		t.Fatal(e, e2)
	}
}

// compiled returns the object of a source file.
func compiled(t *testing.T, name, text string) api.Member {
	o, _, f := compile.Unit(api.Tree{{Path: "a/m", Data: text}}, "a/m", nil)
	if f != (api.Fault{}) {
		t.Fatal(f, text)
	}
	return api.Member{Name: name, Object: o}
}

// P12.4: what was compiled and linked is valid, and the plain bytes of its places are the data of the sections.
func TestLinked(t *testing.T) {
	r := rand.New(rand.NewSource(4))
	programs, libraries := 0, 0
	for range 300 {
		file := func(name string) api.Member {
			var text strings.Builder
			names := []string{"f", "g", "h", "d", "k"}
			r.Shuffle(len(names), func(i, j int) { names[i], names[j] = names[j], names[i] })
			for i, n := range names {
				other, third := names[r.Intn(5)], names[r.Intn(5)]
				mode := []string{"", "export ", "weak ", "weak "}[r.Intn(4)]
				switch {
				case i < 2:
					fmt.Fprintf(&text, "extern %s\n", n)
				case r.Intn(2) == 0:
					fmt.Fprintf(&text, "%sdata %s 1\n%d, %s, %s\n", mode, n, r.Intn(1<<20), other, third)
				default:
					fmt.Fprintf(&text, "%sfn %s 2\nout %s + %s\nreturn %d\n", mode, n, other, third, r.Intn(99))
				}
			}
			return compiled(t, name, text.String())
		}
		main := compiled(t, "m", "extern f\nextern k\nexport fn main 1\nstore f = k + load(d)\ndata d 1\n7")
		objects := []api.Member{main, file("o/1")}
		shelves := []api.Shelf{{Path: "s", Members: []api.Member{file("x"), file("y")}}}
		members := []api.Member{file("l/1"), file("l/2")}
		s, _, e := link.Share(members)
		if e != api.OK {
			continue
		}
		libraries++
		linked(t, s, members, nil)
		if b, _, e := link.Link("main", objects, shelves, []api.Library{{Path: "l", Binary: s}}); e == api.OK {
			programs++
			linked(t, b, objects, shelves)
		}
	}
	if programs < 30 || libraries < 30 {
		t.Error(programs, libraries)
	}
}

// P1: all functions can be called with any binary, and any string.
func TestAnyArguments(t *testing.T) {
	r := rand.New(rand.NewSource(5))
	names := []string{"", "a", "b", "?", "let", "a!b"}
	number := func() int {
		return []int{-1 << 63, -4, -1, 0, 0, 0, 1, 2, 3, 4, 8, 1 << 32, 1<<63 - 4, 1<<63 - 1}[r.Intn(14)]
	}
	name := func() string { return names[r.Intn(len(names))] }
	for i := range 30000 {
		b := api.Binary{Kind: number(), Entry: number(), Image: strings.Repeat("\x00", r.Intn(12))}
		for range r.Intn(4) {
			b.Places = append(b.Places, api.Placed{Object: name(), Symbol: name(), Kind: number(), At: number(), Size: number()})
		}
		for range r.Intn(2) {
			b.Fixups = append(b.Fixups, number())
			b.Imports = append(b.Imports, api.Import{Library: name(), Symbol: name(), At: number()})
			b.Exports = append(b.Exports, api.Exported{Symbol: name(), At: number()})
			b.Notes = append(b.Notes, api.Note{Name: name(), Text: name()})
		}
		checks(t, i, b, Check(b) == api.OK)
		if _, e := Plain(b, number()); e == api.OK && Check(b) != api.OK {
			t.Fatal(b)
		}
		address := number()
		k, found := At(b, address)
		if found && (address < b.Places[k].At || b.Places[k].Size <= 0) || !found && k != 0 {
			t.Fatal(b, address, k)
		}
		if text, found := Note(b, name()); !found && text != "" {
			t.Fatal(b, text)
		}
		if _, e := Decode(name() + bytesOf(b)); e != api.ErrCorrupt && e != api.OK {
			t.Fatal(e)
		}
	}
}
