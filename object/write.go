package object

import (
	"strings"

	"licit/api"
	"licit/codec"
)

// The texts with which the bytes of objects and archives begin.
const (
	objectTag  = "object"
	archiveTag = "archive"
)

// writer writes values of which it is known that they have bytes.
type writer struct{ strings.Builder }

// number writes a number.
func (w *writer) number(n int) {
	s, _ := codec.Number(n)
	w.WriteString(s)
}

// text writes a text.
func (w *writer) text(text string) {
	s, _ := codec.Text(text)
	w.WriteString(s)
}

// result returns what was written: ErrTooLarge, if it is too much for a file.
func (w *writer) result() (string, api.Errno) {
	if w.Len() > api.MaxData {
		return "", api.ErrTooLarge
	}
	return w.String(), api.OK
}

// Encode returns the bytes of an object: ErrArg, if it is not valid; ErrTooLarge, if they are too many.
func Encode(o api.Object) (string, api.Errno) {
	if !isObject(o) {
		return "", api.ErrArg
	}
	w := &writer{}
	w.text(objectTag)
	w.number(len(o.Symbols))
	for _, s := range o.Symbols {
		w.text(s.Name)
		w.number(s.Mode)
		w.number(s.Section + 1)
	}
	names := indices(o.Symbols)
	w.number(len(o.Sections))
	for _, s := range o.Sections {
		w.section(s, names)
	}
	return w.result()
}

// section writes a section, given the indices of the symbols.
func (w *writer) section(s api.Section, names map[string]int) {
	w.number(s.Kind)
	w.text(s.Data)
	w.number(len(s.Relocs))
	for _, r := range s.Relocs {
		w.number(r.At)
		w.number(names[r.Symbol])
	}
}

// Pack returns the bytes of an archive: ErrArg, if it is not valid; ErrTooLarge, if they, or those of an object, are too many.
func Pack(l []api.Member) (string, api.Errno) {
	if !isArchive(l) {
		return "", api.ErrArg
	}
	w := &writer{}
	w.text(archiveTag)
	w.number(len(l))
	for _, m := range l {
		bytes, e := Encode(m.Object)
		if e != api.OK {
			return "", e
		}
		w.text(m.Name)
		w.text(bytes)
	}
	return w.result()
}
