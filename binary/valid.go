package binary

import (
	"slices"
	"strings"

	"licit/api"
	"licit/token"
	"licit/tree"
)

// wordSize is the number of bytes of a word; places begin at its multiples.
const wordSize = 4

// isBinary says whether a binary is valid.
func isBinary(b api.Binary) bool {
	return arePlaces(b) && areWords(b) && fitsKind(b) && areNotes(b.Notes)
}

// arePlaces says whether the places of a binary have their form, and make up its image.
func arePlaces(b api.Binary) bool {
	if len(b.Places) == 0 || len(b.Places) > api.MaxSections || len(b.Image) > api.MaxData {
		return false
	}
	type owner struct{ object, symbol string }
	seen := map[owner]bool{}
	end := 0
	for _, p := range b.Places {
		o := owner{p.Object, p.Symbol}
		if !isFileName(p.Object) || !token.Name(p.Symbol) || seen[o] || !isSize(p.Kind, p.Size) {
			return false
		}
		seen[o] = true
		at := (end + wordSize - 1) / wordSize * wordSize
		if p.At != at || at+p.Size > len(b.Image) || strings.Trim(b.Image[end:at], "\x00") != "" {
			return false
		}
		end = at + p.Size
	}
	return end == len(b.Image)
}

// isFileName says whether a string is the name of an object: a path, or the path of an archive and that of a member.
func isFileName(s string) bool {
	path, member, isMember := strings.Cut(s, "!")
	return tree.Path(path) == api.OK && (!isMember || tree.Path(member) == api.OK)
}

// isSize says whether places of a kind can have so many bytes.
func isSize(kind, size int) bool {
	switch kind {
	case api.SectionCode:
		// at least the numbers of parameters and variables
		return size >= 2 && size <= api.MaxCode
	case api.SectionData:
		return size >= 0 && size%wordSize == 0 && size <= api.MaxCode
	}
	return false
}

// areWords says whether the words of fixups and imports are in order, have bytes of their own, and are what they have to be. The places are right.
func areWords(b api.Binary) bool {
	var asked []int
	for _, x := range b.Imports {
		if tree.Path(x.Library) != api.OK || !token.Name(x.Symbol) || word(b, x.At) != 0 {
			return false
		}
		asked = append(asked, x.At)
	}
	begins := map[int]bool{}
	for _, p := range b.Places {
		begins[p.At] = true
	}
	for _, at := range b.Fixups {
		if !begins[word(b, at)] {
			return false
		}
	}
	return slices.IsSorted(b.Fixups) && slices.IsSorted(asked) && areApart(slices.Concat(b.Fixups, asked))
}

// word returns the word at an address, of which all bytes belong to one place: -1, if there is none.
func word(b api.Binary, at int) int {
	i, found := At(b, at)
	if !found || at+wordSize > b.Places[i].At+b.Places[i].Size {
		return -1
	}
	n := 0
	for k := range wordSize {
		n |= int(b.Image[at+k]) << (8 * k)
	}
	return n
}

// areApart says whether no two words at some addresses have a byte in common.
func areApart(words []int) bool {
	slices.Sort(words)
	for i := 1; i < len(words); i++ {
		if words[i]-words[i-1] < wordSize {
			return false
		}
	}
	return true
}

// fitsKind says whether a binary has what those of its kind have, and nothing else. The places are right.
func fitsKind(b api.Binary) bool {
	switch b.Kind {
	case api.Program:
		return b.Entry == 0 && b.Places[0].Kind == api.SectionCode && len(b.Exports) == 0
	case api.Shared:
		return b.Entry == -1 && len(b.Imports) == 0 && areExports(b)
	}
	return false
}

// areExports says whether the exports of a binary are in order, and say where places with their symbols begin.
func areExports(b api.Binary) bool {
	begins := map[api.Exported]bool{}
	for _, p := range b.Places {
		begins[api.Exported{Symbol: p.Symbol, At: p.At}] = true
	}
	for i, x := range b.Exports {
		if !begins[x] || i > 0 && x.Symbol <= b.Exports[i-1].Symbol {
			return false
		}
	}
	return true
}

// areNotes says whether a binary can have some notes.
func areNotes(notes []api.Note) bool {
	if len(notes) > api.MaxFiles {
		return false
	}
	seen := map[string]bool{}
	for _, n := range notes {
		if !token.Name(n.Name) || seen[n.Name] || len(n.Text) > api.MaxData {
			return false
		}
		seen[n.Name] = true
	}
	return true
}
