package compile

import (
	"licit/api"
	"licit/expr"
	"licit/token"
)

// data compiles the body as data: the first error of one of its lines.
func (b *body) data() api.Errno {
	for n := b.span.From; n < b.span.To; n++ {
		l, e := b.line(n)
		if e != api.OK {
			return e
		}
		if len(l) == 0 {
			continue
		}
		for _, part := range parts(l) {
			if e := b.part(part); e != api.OK {
				return e
			}
		}
	}
	return api.OK
}

// parts divides tokens at the commas that do not stand in parentheses.
func parts(l []api.Token) [][]api.Token {
	var all [][]api.Token
	depth, from := 0, 0
	for i, t := range l {
		switch t.Text {
		case "(":
			depth++
		case ")":
			depth--
		case ",":
			if depth == 0 {
				all = append(all, l[from:i])
				from = i + 1
			}
		}
	}
	return append(all, l[from:])
}

// part adds the word of a part: ErrName, if it is an identifier that no item has; the error of Parse; ErrSyntax, if it is not a constant; ErrTooLarge, if there is no room for it.
func (b *body) part(l []api.Token) api.Errno {
	value, e := b.value(l)
	if e != api.OK {
		return e
	}
	if len(b.bytes)+wordSize > api.MaxCode {
		return api.ErrTooLarge
	}
	b.bytes = append(b.bytes, word(value)...)
	return api.OK
}

// value returns the word of a part, which is 0 if the part names an item.
func (b *body) value(l []api.Token) (uint32, api.Errno) {
	if len(l) == 1 && token.Name(l[0].Text) {
		return 0, b.refer(l[0].Text, len(b.bytes))
	}
	f, e := expr.Parse(l)
	if e != api.OK {
		return 0, e
	}
	value, constant := expr.Value(f)
	if !constant {
		return 0, api.ErrSyntax
	}
	return value, api.OK
}
