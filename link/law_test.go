package link

import (
	"fmt"
	"maps"
	"math/rand"
	"slices"
	"strconv"
	"strings"
	"testing"

	"licit/api"
	"licit/binary"
	"licit/object"
)

// lookup is how a symbol is resolved: the object with its name, or the path of a library, and how many members and libraries were read.
type lookup struct {
	name          string
	object        api.Object
	isLibrary     bool
	tables, lists int
	e             api.Errno
}

// modeOf returns the mode of a symbol in an object, and -1 if it has no such symbol.
func modeOf(o api.Object, symbol string) int {
	for _, s := range o.Symbols {
		if s.Name == symbol {
			return s.Mode
		}
	}
	return -1
}

// lookUp resolves a symbol by the words of the definition.
func (in input) lookUp(symbol string) lookup {
	var strong, weak []api.Member
	for _, m := range in.objects {
		switch modeOf(m.Object, symbol) {
		case api.Export:
			strong = append(strong, m)
		case api.Weak:
			weak = append(weak, m)
		}
	}
	switch {
	case len(strong) > 1:
		return lookup{e: api.ErrTwice}
	case len(strong) == 1:
		return lookup{name: strong[0].Name, object: strong[0].Object}
	case len(weak) > 0:
		return lookup{name: weak[0].Name, object: weak[0].Object}
	}
	tables := 0
	for _, s := range in.shelves {
		for _, m := range s.Members {
			tables++
			if mode := modeOf(m.Object, symbol); mode == api.Export || mode == api.Weak {
				return lookup{name: s.Path + "!" + m.Name, object: m.Object, tables: tables}
			}
		}
	}
	for i, l := range in.libs {
		for _, x := range l.Binary.Exports {
			if x.Symbol == symbol {
				return lookup{name: l.Path, isLibrary: true, tables: tables, lists: i + 1}
			}
		}
	}
	return lookup{e: api.ErrUnknown, tables: tables, lists: len(in.libs)}
}

// chosen is a section of the list of a link.
type chosen struct {
	name, symbol string
	object       api.Object
}

// section returns the section.
func (c chosen) section() api.Section {
	for _, s := range c.object.Symbols {
		if s.Name == c.symbol && s.Section >= 0 {
			return c.object.Sections[s.Section]
		}
	}
	return api.Section{}
}

// linkage is a link by the words of the definition.
type linkage struct {
	input
	list          []chosen
	tables, lists int
}

// isIn says whether a section is in the list, and where.
func (l *linkage) isIn(c chosen) (int, bool) {
	i := slices.IndexFunc(l.list, func(x chosen) bool { return x.name == c.name && x.symbol == c.symbol })
	return i, i >= 0
}

// mean returns what a symbol means in a section: a section, or an import of a library.
func (l *linkage) mean(c chosen, symbol string) (chosen, lookup) {
	if modeOf(c.object, symbol) == api.Private {
		for _, s := range c.object.Symbols {
			if s.Name == symbol && s.Section == -1 {
				return chosen{}, lookup{e: api.ErrUnknown}
			}
		}
		return chosen{c.name, symbol, c.object}, lookup{}
	}
	found := l.lookUp(symbol)
	l.tables, l.lists = max(l.tables, found.tables), max(l.lists, found.lists)
	return chosen{found.name, symbol, found.object}, found
}

// put adds a section to the list, if it is not there: ErrTooLarge, if there is no room.
func (l *linkage) put(c chosen) api.Errno {
	if _, is := l.isIn(c); is {
		return api.OK
	}
	if len(l.list) == 128 {
		return api.ErrTooLarge
	}
	l.list = append(l.list, c)
	return api.OK
}

// follow adds all sections that are meant by those of the list.
func (l *linkage) follow() api.Errno {
	for i := 0; i < len(l.list); i++ {
		for _, r := range l.list[i].section().Relocs {
			c, found := l.mean(l.list[i], r.Symbol)
			if found.e != api.OK {
				return found.e
			}
			if found.isLibrary {
				continue
			}
			if e := l.put(c); e != api.OK {
				return e
			}
		}
	}
	return api.OK
}

// result returns the binary of the list, and what was read.
func (l *linkage) result(kind, entry int, exports []string) (api.Binary, api.LinkReading, api.Errno) {
	b := api.Binary{Kind: kind, Entry: entry}
	for _, c := range l.list {
		for len(b.Image)%4 != 0 {
			b.Image += "\x00"
		}
		s := c.section()
		b.Places = append(b.Places, api.Placed{Object: c.name, Symbol: c.symbol, Kind: s.Kind, At: len(b.Image), Size: len(s.Data)})
		b.Image += s.Data
	}
	if len(b.Image) > 65536 {
		return api.Binary{}, api.LinkReading{}, api.ErrTooLarge
	}
	for i, c := range l.list {
		for _, r := range c.section().Relocs {
			at := b.Places[i].At + r.At
			meant, found := l.mean(c, r.Symbol)
			if found.isLibrary {
				b.Imports = append(b.Imports, api.Import{Library: found.name, Symbol: r.Symbol, At: at})
				continue
			}
			k, _ := l.isIn(meant)
			b.Image = b.Image[:at] + wordOf(b.Places[k].At) + b.Image[at+4:]
			b.Fixups = append(b.Fixups, at)
		}
	}
	for i, symbol := range exports {
		b.Exports = append(b.Exports, api.Exported{Symbol: symbol, At: b.Places[i].At})
	}
	return b, l.read(), api.OK
}

// read returns what was read.
func (l *linkage) read() api.LinkReading {
	var r api.LinkReading
	for _, m := range l.objects {
		r.Tables = append(r.Tables, m.Name)
	}
	n := 0
	for _, s := range l.shelves {
		for _, m := range s.Members {
			if n++; n <= l.tables {
				r.Tables = append(r.Tables, s.Path+"!"+m.Name)
			}
		}
	}
	for _, x := range l.libs[:l.lists] {
		r.Lists = append(r.Lists, x.Path)
	}
	return r
}

// plainLink links a program by the words of the definition, given valid arguments.
func (in input) plainLink(entry string) (api.Binary, api.LinkReading, api.Errno) {
	l := &linkage{input: in}
	found := input{in.objects, in.shelves, nil}.lookUp(entry)
	if found.e != api.OK {
		return api.Binary{}, api.LinkReading{}, found.e
	}
	c := chosen{found.name, entry, found.object}
	if c.section().Kind != api.SectionCode {
		return api.Binary{}, api.LinkReading{}, api.ErrMismatch
	}
	l.list, l.tables = []chosen{c}, found.tables
	if e := l.follow(); e != api.OK {
		return api.Binary{}, api.LinkReading{}, e
	}
	return l.result(api.Program, 0, nil)
}

// plainShare links a shared library by the words of the definition, given valid objects.
func plainShare(objects []api.Member) (api.Binary, api.LinkReading, api.Errno) {
	exports := map[string]bool{}
	for _, m := range objects {
		for _, s := range m.Object.Symbols {
			if s.Mode == api.Export || s.Mode == api.Weak {
				exports[s.Name] = true
			}
		}
	}
	if len(exports) == 0 {
		return api.Binary{}, api.LinkReading{}, api.ErrNotFound
	}
	l := &linkage{input: input{objects: objects}}
	symbols := slices.Sorted(maps.Keys(exports))
	for _, symbol := range symbols {
		found := l.lookUp(symbol)
		if found.e != api.OK {
			return api.Binary{}, api.LinkReading{}, found.e
		}
		if e := l.put(chosen{found.name, symbol, found.object}); e != api.OK {
			return api.Binary{}, api.LinkReading{}, e
		}
	}
	if e := l.follow(); e != api.OK {
		return api.Binary{}, api.LinkReading{}, e
	}
	return l.result(api.Shared, -1, symbols)
}

// randomObject returns an object with some symbols of an alphabet.
func randomObject(r *rand.Rand, alphabet string, modes []string) api.Object {
	var symbols, names []string
	for _, i := range r.Perm(len(alphabet))[:r.Intn(len(alphabet)+1)] {
		names = append(names, alphabet[i:i+1])
	}
	for _, name := range names {
		mode := modes[r.Intn(len(modes))]
		if mode == "extern" || mode == "private" && r.Intn(5) == 0 {
			symbols = append(symbols, mode+" "+name)
			continue
		}
		text := mode + " " + []string{"code ", "data "}[r.Intn(2)] + name
		for range r.Intn(4) {
			text += " " + []string{names[r.Intn(len(names))], names[r.Intn(len(names))], strconv.Itoa(r.Intn(9))}[r.Intn(3)]
		}
		symbols = append(symbols, text)
	}
	return made(symbols...)
}

// randomInput returns the arguments of a link.
func randomInput(r *rand.Rand) input {
	const alphabet = "abcdefgh"
	var in input
	modes := []string{"private", "export", "weak", "weak", "extern", "extern", "extern"}
	for _, name := range []string{"o/1", "o/2", "o/3"}[r.Intn(3):] {
		in.objects = append(in.objects, api.Member{Name: name, Object: randomObject(r, alphabet, modes)})
	}
	for _, path := range []string{"s/1", "s/2", "s/3"}[r.Intn(4):] {
		s := api.Shelf{Path: path}
		for _, name := range []string{"x", "y", "z"}[r.Intn(4):] {
			s.Members = append(s.Members, api.Member{Name: name, Object: randomObject(r, alphabet, modes)})
		}
		in.shelves = append(in.shelves, s)
	}
	for _, path := range []string{"l/1", "l/2", "l/3"}[r.Intn(4):] {
		in.libs = append(in.libs, library(path, randomExports(r, alphabet)...))
	}
	return in
}

// randomExports returns some letters of an alphabet, in order.
func randomExports(r *rand.Rand, alphabet string) []string {
	var l []string
	for _, c := range alphabet {
		if r.Intn(2) == 0 {
			l = append(l, string(c))
		}
	}
	return l
}

// P11.1 and P11.2: random links are what the definitions say, with all errors.
func TestByDefinition(t *testing.T) {
	r := rand.New(rand.NewSource(1))
	links, shares, finds := map[api.Errno]int{}, map[api.Errno]int{}, map[api.Errno]int{}
	for range 8000 {
		in := randomInput(r)
		before := show(in)
		for _, symbol := range []string{"a", "b", "h", "nowhere"} {
			want := show(in.plainLink(symbol))
			b, read, e := in.link(symbol)
			links[e]++
			if got := show(b, read, e); got != want {
				t.Fatal(before, symbol, got, want)
			}
			found := in.lookUp(symbol)
			finds[found.e]++
			if name, isLibrary, e := in.resolve(symbol); name != found.name || isLibrary != found.isLibrary || e != found.e {
				t.Fatal(before, symbol, name, isLibrary, e)
			}
		}
		want := show(plainShare(in.objects))
		b, read, e := Share(in.objects)
		shares[e]++
		if got := show(b, read, e); got != want {
			t.Fatal(before, got, want)
		}
		if show(in) != before {
			t.Fatal(before, show(in))
		}
	}
	for _, e := range []api.Errno{api.OK, api.ErrTwice, api.ErrUnknown, api.ErrMismatch} {
		if links[e] < 100 || e != api.ErrMismatch && (finds[e] < 100 || shares[e] < 100) {
			t.Error(e, links, shares, finds)
		}
	}
}

// crowd returns objects with n functions f0, f1 and so on, each of which mentions the next one and another one, and has some bytes more.
func crowd(r *rand.Rand, n int) []api.Member {
	var l []api.Member
	size := r.Intn(500)
	for from := 0; from < n; {
		to := min(n, from+1+r.Intn(30))
		var symbols []string
		mentioned := map[int]bool{}
		for i := from; i < to; i++ {
			next, other := (i+1)%n, r.Intn(n)
			mentioned[next], mentioned[other] = true, true
			symbols = append(symbols, fmt.Sprintf("export code f%d f%d f%d", i, next, other))
		}
		for _, i := range slices.Sorted(maps.Keys(mentioned)) {
			if i < from || i >= to {
				symbols = append(symbols, fmt.Sprintf("extern f%d", i))
			}
		}
		m := member(fmt.Sprintf("o/%d", from), symbols...)
		for i := range m.Object.Sections {
			m.Object.Sections[i].Data += strings.Repeat("x", size+r.Intn(300))
		}
		l = append(l, m)
		from = to
	}
	return l
}

// P11.1: links of many sections, among which there are too many ones, or too large ones, are what the definitions say.
func TestManyByDefinition(t *testing.T) {
	r := rand.New(rand.NewSource(2))
	links, shares := map[api.Errno]int{}, map[api.Errno]int{}
	for range 80 {
		in := input{objects: crowd(r, 110+r.Intn(30))}
		b, read, e := in.link("f0")
		links[e]++
		if got, want := show(b, read, e), show(in.plainLink("f0")); got != want {
			t.Fatal(len(in.objects), e, len(got), len(want))
		}
		b, read, e = Share(in.objects)
		shares[e]++
		if got, want := show(b, read, e), show(plainShare(in.objects)); got != want {
			t.Fatal(len(in.objects), e, len(got), len(want))
		}
	}
	for _, e := range []api.Errno{api.OK, api.ErrTooLarge} {
		if links[e] < 10 || shares[e] < 10 {
			t.Error(links, shares)
		}
	}
}

// otherSections returns an object with the same symbols, in which the sections that are not kept are others.
func otherSections(r *rand.Rand, o api.Object, keep func(symbol string) bool) api.Object {
	other := api.Object{Symbols: o.Symbols, Sections: slices.Clone(o.Sections)}
	for _, s := range o.Symbols {
		if s.Section >= 0 && !keep(s.Name) {
			other.Sections[s.Section] = sectionOf(1+r.Intn(2), []string{o.Symbols[r.Intn(len(o.Symbols))].Name, "7"})
		}
	}
	return other
}

// others returns arguments in which the sections that were not selected, and the members and libraries that were not read, are others.
func (in input) others(r *rand.Rand, b api.Binary, read api.LinkReading) input {
	object := func(name string, o api.Object) api.Object {
		if !slices.Contains(read.Tables, name) {
			return randomObject(r, "abcdefghi", []string{"export", "weak", "private", "extern"})
		}
		return otherSections(r, o, func(symbol string) bool {
			return slices.ContainsFunc(b.Places, func(p api.Placed) bool { return p.Object == name && p.Symbol == symbol })
		})
	}
	var other input
	for _, m := range in.objects {
		other.objects = append(other.objects, api.Member{Name: m.Name, Object: object(m.Name, m.Object)})
	}
	for _, s := range in.shelves {
		changed := api.Shelf{Path: s.Path}
		for _, m := range s.Members {
			changed.Members = append(changed.Members, api.Member{Name: m.Name, Object: object(s.Path+"!"+m.Name, m.Object)})
		}
		other.shelves = append(other.shelves, changed)
	}
	for _, l := range in.libs {
		if !slices.Contains(read.Lists, l.Path) {
			l = library(l.Path, randomExports(r, "abcdefghi")...)
		}
		other.libs = append(other.libs, l)
	}
	return other
}

// isMeant says whether a word at a fixup is the address of a place.
func isMeant(b api.Binary, p api.Placed) bool {
	return slices.ContainsFunc(b.Fixups, func(at int) bool { return b.Image[at:at+4] == wordOf(p.At) })
}

// definesTwice says whether two archives define the same symbol.
func (in input) definesTwice() bool {
	owner := map[string]string{}
	for _, s := range in.shelves {
		for _, m := range s.Members {
			for _, symbol := range object.Exports(m.Object) {
				if path, found := owner[symbol]; found && path != s.Path {
					return true
				}
				owner[symbol] = s.Path
			}
		}
	}
	return false
}

// P11.3: what was not selected and not read does not matter, nor do libraries without imports, nor the order of archives that have no symbol in common; and all sections but the first one are meant by words.
func TestConsequences(t *testing.T) {
	r := rand.New(rand.NewSource(3))
	links, alone, turned := 0, 0, 0
	for range 20000 {
		in := randomInput(r)
		b, read, e := in.link("a")
		if e != api.OK {
			continue
		}
		links++
		if again, read2, e := in.others(r, b, read).link("a"); show(again, read2, e) != show(b, read, api.OK) {
			t.Fatal(show(in), show(b, read), show(again, read2, e))
		}
		if len(b.Imports) == 0 {
			alone++
			for _, libs := range [][]api.Library{nil, {library("k", "a", "b", "c")}, {library("l/1"), library("k")}} {
				if again, read2, e := (input{in.objects, in.shelves, libs}).link("a"); show(again, read2, e) != show(b, read, api.OK) {
					t.Fatal(show(in), libs)
				}
			}
		}
		for _, p := range b.Places[1:] {
			if !isMeant(b, p) {
				t.Fatal(show(in), p)
			}
		}
		if len(in.shelves) > 1 && !in.definesTwice() {
			turned++
			back := input{in.objects, slices.Clone(in.shelves), in.libs}
			slices.Reverse(back.shelves)
			if again, _, e := back.link("a"); e != api.OK || show(again) != show(b) {
				t.Fatal(show(in), show(again))
			}
		}
		if binary.Check(b) != api.OK {
			t.Fatal(show(in), show(b))
		}
	}
	if links < 2000 || alone < 500 || turned < 200 {
		t.Error(links, alone, turned)
	}
}

// P1: any arguments lead to a result, or to ErrArg.
func TestAnyArguments(t *testing.T) {
	r := rand.New(rand.NewSource(4))
	names := []string{"", "a", "b", "?", "let", "a/b"}
	number := func() int { return []int{-1 << 63, -1, 0, 0, 1, 2, 3, 1<<63 - 1}[r.Intn(8)] }
	name := func() string { return names[r.Intn(len(names))] }
	members := func() []api.Member {
		var l []api.Member
		for range r.Intn(3) {
			var o api.Object
			for range r.Intn(3) {
				o.Symbols = append(o.Symbols, api.Symbol{Name: name(), Mode: number(), Section: number()})
			}
			for range r.Intn(2) {
				o.Sections = append(o.Sections, api.Section{Kind: number(), Data: wordOf(0), Relocs: []api.Reloc{{At: number(), Symbol: name()}}[:r.Intn(2)]})
			}
			l = append(l, api.Member{Name: name(), Object: o})
		}
		return l
	}
	for range 20000 {
		in := input{objects: members()}
		for range r.Intn(2) {
			in.shelves = append(in.shelves, api.Shelf{Path: name(), Members: members()})
		}
		for range r.Intn(2) {
			in.libs = append(in.libs, api.Library{Path: name(), Binary: api.Binary{Kind: number(), Exports: []api.Exported{{Symbol: name(), At: number()}}}})
		}
		symbol := name()
		if b, read, e := in.link(symbol); e != api.OK && !isNothing(b, read) || e == api.OK && len(b.Places) == 0 {
			t.Fatal(show(in), e)
		}
		if b, read, e := Share(in.objects); e != api.OK && !isNothing(b, read) || e == api.OK && len(b.Places) == 0 {
			t.Fatal(show(in), e)
		}
		if found, isLibrary, e := in.resolve(symbol); e != api.OK && (found != "" || isLibrary) || e == api.OK && found == "" {
			t.Fatal(show(in), e)
		}
	}
}
