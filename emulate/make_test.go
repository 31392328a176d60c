package emulate

import (
	"fmt"
	"slices"
	"strconv"
	"strings"
	"testing"

	"licit/api"
)

// wordOf returns the bytes of a word.
func wordOf(n uint32) string {
	return string([]byte{byte(n), byte(n >> 8), byte(n >> 16), byte(n >> 24)})
}

// maker makes a binary, piece by piece.
type maker struct {
	binary api.Binary
	image  []byte
	meant  map[int]string // the places that the words at addresses mean
}

// instructionsOf are the first bytes of instructions, and how long their operands are.
var instructionsOf = map[string][2]int{
	"push": {1, 4}, "get": {2, 1}, "set": {3, 1}, "load": {4, 0}, "store": {5, 0}, "in": {6, 0}, "out": {7, 0}, "unary": {8, 1}, "binary": {9, 1},
	"jump": {10, 4}, "zero": {11, 4}, "call": {12, 1}, "return": {13, 0}, "drop": {14, 0},
}

// word adds a word: a number, a place of this binary (@object:symbol), or a symbol of a library ($path:symbol).
func (m *maker) word(w string) {
	path, symbol, _ := strings.Cut(w[1:], ":")
	switch w[0] {
	case '@':
		m.meant[len(m.image)] = path + ":" + symbol
		m.binary.Fixups = append(m.binary.Fixups, len(m.image))
		w = "0"
	case '$':
		m.binary.Imports = append(m.binary.Imports, api.Import{Library: path, Symbol: symbol, At: len(m.image)})
		w = "0"
	}
	n, err := strconv.ParseInt(w, 0, 64)
	if err != nil {
		panic(w)
	}
	m.image = append(m.image, wordOf(uint32(n))...)
}

// place adds a place, given as a text: its object, its symbol, its kind, and what it consists of. Code consists of instructions with their operands, of bytes, and of words that mean something, data of words.
func (m *maker) place(text string) {
	for len(m.image)%4 != 0 {
		m.image = append(m.image, 0)
	}
	words := strings.Fields(text)
	p := api.Placed{Object: words[0], Symbol: words[1], Kind: api.SectionCode, At: len(m.image)}
	if words[2] == "data" {
		p.Kind = api.SectionData
	}
	for words = words[3:]; len(words) > 0; words = words[1:] {
		ins, known := instructionsOf[words[0]]
		if p.Kind == api.SectionData || strings.ContainsAny(words[0], "@$") {
			m.word(words[0])
			continue
		}
		if !known {
			n, err := strconv.ParseUint(words[0], 0, 8)
			if err != nil {
				panic(words[0])
			}
			m.image = append(m.image, byte(n))
			continue
		}
		m.image = append(m.image, byte(ins[0]))
		switch ins[1] {
		case 4:
			words = words[1:]
			m.word(words[0])
		case 1:
			words = words[1:]
			n, _ := strconv.Atoi(words[0])
			m.image = append(m.image, byte(n))
		}
	}
	p.Size = len(m.image) - p.At
	m.binary.Places = append(m.binary.Places, p)
}

// made returns the binary with some places. A shared library exports all of them, by their symbols.
func made(kind int, places ...string) api.Binary {
	m := &maker{binary: api.Binary{Kind: kind}, meant: map[int]string{}}
	for _, p := range places {
		m.place(p)
	}
	for at, meant := range m.meant {
		i := slices.IndexFunc(m.binary.Places, func(p api.Placed) bool { return p.Object+":"+p.Symbol == meant })
		copy(m.image[at:], wordOf(uint32(m.binary.Places[i].At)))
	}
	m.binary.Image = string(m.image)
	if kind == api.Shared {
		m.binary.Entry = -1
		for _, p := range m.binary.Places {
			m.binary.Exports = append(m.binary.Exports, api.Exported{Symbol: p.Symbol, At: p.At})
		}
		slices.SortFunc(m.binary.Exports, func(a, b api.Exported) int { return strings.Compare(a.Symbol, b.Symbol) })
	}
	return m.binary
}

// program returns a program.
func program(places ...string) api.Binary { return made(api.Program, places...) }

// library returns a shared library with a path.
func library(path string, places ...string) api.Library {
	return api.Library{Path: path, Binary: made(api.Shared, places...)}
}

// libraries returns n shared libraries with different paths, of one word each.
func libraries(n int) []api.Library {
	var libs []api.Library
	for i := range n {
		libs = append(libs, library(fmt.Sprint("lib/s", i), fmt.Sprint("s/o d data ", i)))
	}
	return libs
}

// loaded loads a program, which must succeed.
func loaded(t *testing.T, b api.Binary, libs ...api.Library) *Machine {
	t.Helper()
	m, e := Load(b, libs)
	if e != api.OK {
		t.Fatal(e)
	}
	return m
}

// words returns all words of the memory.
func words(m *Machine) []uint32 {
	var l []uint32
	for address := uint32(0); ; address += 4 {
		w, e := m.Word(address)
		if e != api.OK {
			return l
		}
		l = append(l, w)
	}
}

// hasBytes compares all of the memory.
func hasBytes(t *testing.T, m *Machine, all string) {
	t.Helper()
	for at := range len(all) + 8 {
		want, e := uint32(0), api.ErrRange
		if at%4 == 0 && at < len(all) {
			e = api.OK
			for k := range 4 {
				want |= uint32(all[at+k]) << (8 * k)
			}
		}
		if w, f := m.Word(uint32(at)); w != want || f != e {
			t.Error(at, w, f, want, e)
		}
	}
}

// show returns values as text, which is the same for nil and empty lists.
func show(values ...any) string { return fmt.Sprintf("%+v", values) }

// expect calls the entry of a program that consists of the places, and compares what comes back.
func expect(t *testing.T, want api.Result, e api.Errno, input string, limit int, places ...string) {
	t.Helper()
	b := program(places...)
	got, f := Run(b, nil, input, limit)
	if got != want || f != e {
		t.Errorf("%q: %+v %v, not %+v %v", places, got, f, want, e)
	}
	// a machine says the same
	m := loaded(t, b)
	got, f = m.Call(api.LoadBase, input, limit)
	if got != want || f != e {
		t.Errorf("%q: %+v %v, not %+v %v", places, got, f, want, e)
	}
}

// ends expects a value, an output and a number of steps.
func ends(t *testing.T, value uint32, output string, steps int, input string, places ...string) {
	t.Helper()
	want := api.Result{Value: value, Output: output, Steps: steps}
	expect(t, want, api.OK, input, steps, places...)
	expect(t, want, api.OK, input, api.MaxSteps, places...)
	if steps > 1 {
		expect(t, api.Result{}, api.ErrLimit, input, steps-1, places...)
	}
}

// fails expects an error after some steps, and ErrLimit ahead of it.
func fails(t *testing.T, e api.Errno, steps int, input string, places ...string) {
	t.Helper()
	expect(t, api.Result{}, e, input, api.MaxSteps, places...)
	expect(t, api.Result{}, e, input, steps+1, places...)
	if steps > 0 {
		expect(t, api.Result{}, api.ErrLimit, input, steps, places...)
	}
}
