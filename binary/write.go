package binary

import (
	"strings"

	"licit/api"
	"licit/codec"
)

// tag is the text with which the bytes of a binary begin.
const tag = "binary"

// list says how a list is written: how many elements it has, and how one of them is written.
type list struct {
	count int
	write func(i int)
}

// Encode returns the bytes of a binary: ErrArg, if it is not valid; ErrTooLarge, if they are too many.
func Encode(b api.Binary) (string, api.Errno) {
	if !isBinary(b) {
		return "", api.ErrArg
	}
	bytes := bytesOf(b)
	if len(bytes) > api.MaxData {
		return "", api.ErrTooLarge
	}
	return bytes, api.OK
}

// bytesOf returns the bytes of a valid binary, of which all numbers and texts have bytes.
func bytesOf(b api.Binary) string {
	var all strings.Builder
	numbers := func(l ...int) {
		for _, n := range l {
			s, _ := codec.Number(n)
			all.WriteString(s)
		}
	}
	texts := func(l ...string) {
		for _, text := range l {
			s, _ := codec.Text(text)
			all.WriteString(s)
		}
	}
	texts(tag)
	numbers(b.Kind, b.Entry+1)
	texts(b.Image)
	for _, l := range lists(b, numbers, texts) {
		numbers(l.count)
		for i := range l.count {
			l.write(i)
		}
	}
	return all.String()
}

// lists returns the lists of a binary, in the order of its bytes, given functions that write numbers and texts.
func lists(b api.Binary, numbers func(l ...int), texts func(l ...string)) []list {
	return []list{
		{len(b.Places), func(i int) {
			p := b.Places[i]
			texts(p.Object, p.Symbol)
			numbers(p.Kind, p.At, p.Size)
		}},
		{len(b.Fixups), func(i int) { numbers(b.Fixups[i]) }},
		{len(b.Imports), func(i int) {
			texts(b.Imports[i].Library, b.Imports[i].Symbol)
			numbers(b.Imports[i].At)
		}},
		{len(b.Exports), func(i int) {
			texts(b.Exports[i].Symbol)
			numbers(b.Exports[i].At)
		}},
		{len(b.Notes), func(i int) { texts(b.Notes[i].Name, b.Notes[i].Text) }},
	}
}
