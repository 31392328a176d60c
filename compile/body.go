package compile

import (
	"licit/api"
	"licit/expand"
	"licit/token"
	"licit/tree"
)

// wordSize is the number of bytes of a word.
const wordSize = 4

// body is the body of an item while it is compiled.
type body struct {
	tree   api.Tree
	unit   api.Unit
	items  map[string]api.Item // those of the unit, by their names
	span   api.Span
	lines  []string   // of the file in which the body stands
	at     int        // the line that is being read
	read   []api.Span // what was read, some of it more than once
	bytes  []byte
	relocs []api.Reloc
}

// newBody returns a body of which nothing was read: ErrNotFound, ErrTooLarge or ErrRange, if the tree does not have its lines, as can only be if the unit was not read from this tree.
func newBody(t api.Tree, u api.Unit, s api.Span) (*body, api.Errno) {
	data, found := tree.Find(t, s.Path)
	if !found {
		return nil, api.ErrNotFound
	}
	lines, e := tree.Lines(data)
	if e != api.OK {
		return nil, e
	}
	if s.From < 0 || s.To < s.From || s.To > len(lines) {
		return nil, api.ErrRange
	}
	items := map[string]api.Item{}
	for _, i := range u.Items {
		items[i.Name] = i
	}
	return &body{tree: t, unit: u, items: items, span: s, lines: lines, at: -1}, api.OK
}

// line reads a line, and returns its tokens when they are expanded: the error of Tokens, or of Line.
func (b *body) line(n int) ([]api.Token, api.Errno) {
	b.at = n
	l, e := token.Tokens(b.lines[n])
	if e != api.OK {
		return nil, e
	}
	l, macros, e := expand.Line(b.tree, b.unit, l)
	if e != api.OK {
		return nil, e
	}
	b.read = append(b.read, macros...)
	b.read = append(b.read, api.Span{Path: b.span.Path, From: n, To: n + 1})
	return l, api.OK
}

// refer says that the word that is added at some byte is the address of an item: ErrName, if there is no such item.
func (b *body) refer(name string, at int) api.Errno {
	if _, found := b.items[name]; !found {
		return api.ErrName
	}
	b.relocs = append(b.relocs, api.Reloc{At: at, Symbol: name})
	return api.OK
}

// word returns the bytes of a word, the lowest one first.
func word(w uint32) []byte {
	return []byte{byte(w), byte(w >> 8), byte(w >> 16), byte(w >> 24)}
}
