package object

import (
	"licit/api"
	"licit/token"
	"licit/tree"
)

// wordSize is the number of bytes of a word.
const wordSize = 4

// isObject says whether an object is valid.
func isObject(o api.Object) bool {
	if len(o.Symbols) > api.MaxSymbols || len(o.Sections) > api.MaxSections {
		return false
	}
	names := indices(o.Symbols)
	if len(names) < len(o.Symbols) || !ownSections(o) {
		return false
	}
	for _, s := range o.Symbols {
		if !token.Name(s.Name) || !fits(s) {
			return false
		}
	}
	for _, s := range o.Sections {
		if !isSize(s.Kind, len(s.Data)) || !areRelocs(s, names) {
			return false
		}
	}
	return true
}

// ownSections says whether each symbol has no section, or one of the object, and each section belongs to exactly one symbol.
func ownSections(o api.Object) bool {
	owned := map[int]bool{}
	for _, s := range o.Symbols {
		if s.Section == -1 {
			continue
		}
		if s.Section < 0 || s.Section >= len(o.Sections) || owned[s.Section] {
			return false
		}
		owned[s.Section] = true
	}
	return len(owned) == len(o.Sections)
}

// fits says whether a symbol has a mode, and has a section if its mode asks for one.
func fits(s api.Symbol) bool {
	switch s.Mode {
	case api.Private:
		return true
	case api.Export, api.Weak:
		return s.Section != -1
	case api.Extern:
		return s.Section == -1
	}
	return false
}

// isSize says whether sections of a kind can have so many bytes.
func isSize(kind, size int) bool {
	switch kind {
	case api.SectionCode:
		// at least the numbers of parameters and variables
		return size >= 2 && size <= api.MaxCode
	case api.SectionData:
		return size%wordSize == 0 && size <= api.MaxCode
	}
	return false
}

// areRelocs says whether each relocation of a section has a word of its own that is 0, behind those before, and one of some names.
func areRelocs(s api.Section, names map[string]int) bool {
	from := 0
	for _, r := range s.Relocs {
		if _, found := names[r.Symbol]; !found || r.At < from || r.At > len(s.Data)-wordSize {
			return false
		}
		from = r.At + wordSize
		if s.Data[r.At:from] != "\x00\x00\x00\x00" {
			return false
		}
	}
	return true
}

// isArchive says whether an archive is valid.
func isArchive(l []api.Member) bool {
	if len(l) > api.MaxFiles {
		return false
	}
	seen := map[string]bool{}
	for _, m := range l {
		if tree.Path(m.Name) != api.OK || seen[m.Name] || !isObject(m.Object) {
			return false
		}
		seen[m.Name] = true
	}
	return true
}
