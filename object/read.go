package object

import (
	"licit/api"
	"licit/codec"
)

// reader reads objects and archives. Whatever is wrong in them, it is the same error.
type reader struct {
	*codec.Reader
	wrong bool // something was read that is no error of the codec
}

// newReader returns a reader of a string that has to begin with a tag.
func newReader(data, tag string) *reader {
	r := &reader{Reader: codec.NewReader(data), wrong: len(data) > api.MaxData}
	if r.Text(len(tag)) != tag {
		r.wrong = true
	}
	return r
}

// isWhole says whether all of the string was read without an error.
func (r *reader) isWhole() bool { return !r.wrong && r.Close() == api.OK }

// list reads the number of elements, and then each of them with a function, which reads zero values behind an error.
func list[T any](r *reader, most int, element func() T) []T {
	var l []T
	for range r.Number(0, most) {
		l = append(l, element())
	}
	return l
}

// Decode returns the object with some bytes: ErrCorrupt, if there is none.
func Decode(data string) (api.Object, api.Errno) {
	r := newReader(data, objectTag)
	symbols := list(r, api.MaxSymbols, r.symbol)
	sections := list(r, api.MaxSections, func() api.Section { return r.section(symbols) })
	o := api.Object{Symbols: symbols, Sections: sections}
	if !r.isWhole() || !isObject(o) {
		return api.Object{}, api.ErrCorrupt
	}
	return o, api.OK
}

// symbol reads a symbol.
func (r *reader) symbol() api.Symbol {
	name := r.Text(api.MaxName)
	mode := r.Number(api.Private, api.Extern)
	section := r.Number(0, api.MaxSections) - 1
	return api.Symbol{Name: name, Mode: mode, Section: section}
}

// section reads a section, given the symbols that its relocations can have.
func (r *reader) section(symbols []api.Symbol) api.Section {
	kind := r.Number(api.SectionCode, api.SectionData)
	data := r.Text(api.MaxCode)
	relocs := list(r, api.MaxCode/wordSize, func() api.Reloc { return r.reloc(symbols) })
	return api.Section{Kind: kind, Data: data, Relocs: relocs}
}

// reloc reads a relocation: nothing, if there is none.
func (r *reader) reloc(symbols []api.Symbol) api.Reloc {
	at := r.Number(0, api.MaxCode)
	i := r.Number(0, len(symbols)-1)
	if r.Err() != api.OK {
		return api.Reloc{}
	}
	return api.Reloc{At: at, Symbol: symbols[i].Name}
}

// Unpack returns the members of the archive with some bytes: ErrCorrupt, if there is none.
func Unpack(data string) ([]api.Member, api.Errno) {
	r := newReader(data, archiveTag)
	l := list(r, api.MaxFiles, r.member)
	if !r.isWhole() || !isArchive(l) {
		return nil, api.ErrCorrupt
	}
	return l, api.OK
}

// member reads a member.
func (r *reader) member() api.Member {
	name := r.Text(api.MaxPath)
	o, e := Decode(r.Text(api.MaxData))
	if e != api.OK {
		r.wrong = true
	}
	return api.Member{Name: name, Object: o}
}
