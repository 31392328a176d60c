package binary

import (
	"licit/api"
	"licit/codec"
)

const (
	maxFileName = 2*api.MaxPath + 1 // bytes of the name of an object
	maxWords    = api.MaxData / wordSize
)

// Decode returns the binary with some bytes: ErrCorrupt, if there is none.
func Decode(data string) (api.Binary, api.Errno) {
	if len(data) > api.MaxData {
		return api.Binary{}, api.ErrCorrupt
	}
	r := codec.NewReader(data)
	begin := r.Text(len(tag))
	b := read(r)
	if r.Close() != api.OK || begin != tag || !isBinary(b) {
		return api.Binary{}, api.ErrCorrupt
	}
	return b, api.OK
}

// read reads what follows the tag. Behind an error it reads zero values.
func read(r *codec.Reader) api.Binary {
	var b api.Binary
	b.Kind = r.Number(api.Program, api.Shared)
	b.Entry = r.Number(0, 1) - 1
	b.Image = r.Text(api.MaxData)
	b.Places = elements(r, api.MaxSections, place)
	b.Fixups = elements(r, maxWords, address)
	b.Imports = elements(r, maxWords, func(r *codec.Reader) api.Import {
		library := r.Text(api.MaxPath)
		symbol := r.Text(api.MaxName)
		return api.Import{Library: library, Symbol: symbol, At: address(r)}
	})
	b.Exports = elements(r, api.MaxSections, func(r *codec.Reader) api.Exported {
		symbol := r.Text(api.MaxName)
		return api.Exported{Symbol: symbol, At: address(r)}
	})
	b.Notes = elements(r, api.MaxFiles, func(r *codec.Reader) api.Note {
		name := r.Text(api.MaxName)
		return api.Note{Name: name, Text: r.Text(api.MaxData)}
	})
	return b
}

// elements reads the number of elements, and then each of them with a function.
func elements[T any](r *codec.Reader, most int, element func(r *codec.Reader) T) []T {
	var l []T
	for range r.Number(0, most) {
		l = append(l, element(r))
	}
	return l
}

// address reads an address.
func address(r *codec.Reader) int { return r.Number(0, api.MaxData) }

// place reads a place.
func place(r *codec.Reader) api.Placed {
	var p api.Placed
	p.Object = r.Text(maxFileName)
	p.Symbol = r.Text(api.MaxName)
	p.Kind = r.Number(api.SectionCode, api.SectionData)
	p.At = address(r)
	p.Size = r.Number(0, api.MaxCode)
	return p
}
