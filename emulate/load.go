package emulate

import (
	"licit/api"
	"licit/binary"
	"licit/tree"
)

// name says what a symbol belongs to: an object of the program, or a library.
type name struct{ of, symbol string }

// Load loads a program with its libraries: ErrArg, if they are not valid; ErrUnknown, if an import is in none of them.
func Load(b api.Binary, libs []api.Library) (*Machine, api.Errno) {
	if !isBinary(b, api.Program) || !areLibraries(libs) {
		return nil, api.ErrArg
	}
	m := &Machine{memory: make(memory, api.LoadBase), places: map[name]uint32{}}
	begin := m.add(b)
	for _, p := range b.Places {
		m.places[name{p.Object, p.Symbol}] = uint32(begin + p.At)
	}
	exports := map[name]uint32{}
	for _, l := range libs {
		from := m.add(l.Binary)
		for _, x := range l.Binary.Exports {
			exports[name{l.Path, x.Symbol}] = uint32(from + x.At)
		}
	}
	for _, x := range b.Imports {
		address, found := exports[name{x.Library, x.Symbol}]
		if !found {
			return nil, api.ErrUnknown
		}
		m.memory.put(begin+x.At, address)
	}
	return m, api.OK
}

// isBinary says whether a binary is valid and of a kind.
func isBinary(b api.Binary, kind int) bool { return b.Kind == kind && binary.Check(b) == api.OK }

// areLibraries says whether libraries can be loaded together.
func areLibraries(libs []api.Library) bool {
	if len(libs) > api.MaxFiles {
		return false
	}
	seen := map[string]bool{}
	for _, l := range libs {
		if !isBinary(l.Binary, api.Shared) || tree.Path(l.Path) != api.OK || seen[l.Path] {
			return false
		}
		seen[l.Path] = true
	}
	return true
}

// add adds the image of a valid binary, and bytes up to the next multiple of 4, and returns where it begins.
func (m *Machine) add(b api.Binary) int {
	begin := len(m.memory)
	m.memory = append(m.memory, b.Image...)
	for len(m.memory)%wordSize != 0 {
		m.memory = append(m.memory, 0)
	}
	for _, at := range b.Fixups {
		m.memory.put(begin+at, m.memory.word(begin+at)+uint32(begin))
	}
	return begin
}
