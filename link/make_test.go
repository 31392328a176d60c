package link

import (
	"fmt"
	"strconv"
	"strings"
	"testing"

	"licit/api"
)

// made returns an object, given a text for each symbol: its mode, its kind if it has a section, its name, and what the section consists of. A number is a byte of code, or a word of data; a name is a word that is the address of a symbol, in code with a byte 1 in front.
func made(symbols ...string) api.Object {
	var o api.Object
	for _, text := range symbols {
		words := strings.Fields(text)
		s := api.Symbol{Mode: map[string]int{"private": api.Private, "export": api.Export, "weak": api.Weak, "extern": api.Extern}[words[0]], Section: -1}
		kind := map[string]int{"code": api.SectionCode, "data": api.SectionData}[words[1]]
		if kind == 0 {
			s.Name = words[1]
		} else {
			s.Name, s.Section = words[2], len(o.Sections)
			o.Sections = append(o.Sections, sectionOf(kind, words[3:]))
		}
		o.Symbols = append(o.Symbols, s)
	}
	return o
}

// sectionOf returns a section, given its kind and what it consists of. Code has two bytes in front.
func sectionOf(kind int, words []string) api.Section {
	s := api.Section{Kind: kind}
	if kind == api.SectionCode {
		s.Data = "\x00\x00"
	}
	for _, w := range words {
		n, err := strconv.Atoi(w)
		switch {
		case err == nil && kind == api.SectionCode:
			s.Data += string([]byte{byte(n)})
		case err == nil:
			s.Data += wordOf(n)
		default:
			if kind == api.SectionCode {
				s.Data += "\x01"
			}
			s.Relocs = append(s.Relocs, api.Reloc{At: len(s.Data), Symbol: w})
			s.Data += wordOf(0)
		}
	}
	return s
}

// wordOf returns the bytes of a word.
func wordOf(n int) string {
	return string([]byte{byte(n), byte(n >> 8), byte(n >> 16), byte(n >> 24)})
}

// member returns an object with a name.
func member(name string, symbols ...string) api.Member {
	return api.Member{Name: name, Object: made(symbols...)}
}

// shelf returns an archive.
func shelf(path string, members ...api.Member) api.Shelf {
	return api.Shelf{Path: path, Members: members}
}

// library returns a shared library that is no more than an export list.
func library(path string, symbols ...string) api.Library {
	l := api.Library{Path: path, Binary: api.Binary{Kind: api.Shared}}
	for i, s := range symbols {
		l.Binary.Exports = append(l.Binary.Exports, api.Exported{Symbol: s, At: 4 * i})
	}
	return l
}

// input is the arguments of a link.
type input struct {
	objects []api.Member
	shelves []api.Shelf
	libs    []api.Library
}

// link links a program.
func (in input) link(entry string) (api.Binary, api.LinkReading, api.Errno) {
	return Link(entry, in.objects, in.shelves, in.libs)
}

// resolve resolves a symbol.
func (in input) resolve(symbol string) (string, bool, api.Errno) {
	return Resolve(symbol, in.objects, in.shelves, in.libs)
}

// show returns values as text, which is the same for nil and empty lists.
func show(values ...any) string { return fmt.Sprintf("%+v", values) }

// isNothing says whether a binary and what was read are zero.
func isNothing(b api.Binary, r api.LinkReading) bool {
	return show(b, r) == show(api.Binary{}, api.LinkReading{})
}

// placesOf returns the objects and symbols of the places of a binary.
func placesOf(b api.Binary) string {
	var l []string
	for _, p := range b.Places {
		l = append(l, p.Object+":"+p.Symbol)
	}
	return strings.Join(l, " ")
}

// readOf returns the names of what was read.
func readOf(r api.LinkReading) string {
	return strings.Join(r.Tables, " ") + "|" + strings.Join(r.Lists, " ")
}

// numbered returns n symbols of a form in which # stands for a number.
func numbered(n int, form string) []string {
	var l []string
	for i := range n {
		l = append(l, strings.ReplaceAll(form, "#", strconv.Itoa(1000 + i)[1:]))
	}
	return l
}

// linked links a program, which must succeed.
func linked(t *testing.T, in input, entry string) (api.Binary, api.LinkReading) {
	t.Helper()
	b, r, e := in.link(entry)
	if e != api.OK {
		t.Fatal(entry, e)
	}
	return b, r
}
