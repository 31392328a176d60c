package expr

import (
	"slices"
	"strconv"

	"licit/api"
)

// part is the tokens of a part of an expression, and its level.
type part struct {
	tokens []api.Token
	level  int
}

// Print returns the tokens of a formula: the error of Check; ErrTooLarge, if there would be too many.
func Print(f api.Formula) ([]api.Token, api.Errno) {
	if e := Check(f); e != api.OK {
		return nil, e
	}
	var values []part
	for _, op := range f {
		taken, _ := operands(op)
		from := len(values) - taken
		values = append(values[:from], partOf(op, values[from:]))
	}
	tokens := values[0].tokens
	if len(tokens) > api.MaxTokens {
		return nil, api.ErrTooLarge
	}
	return tokens, api.OK
}

// partOf returns the part that consists of an operation and its operands.
func partOf(op api.Op, values []part) part {
	switch op.Kind {
	case api.OpNumber:
		digits := strconv.FormatUint(uint64(op.N), 10)
		return part{[]api.Token{{Kind: api.TokenNumber, Text: digits}}, unaryLevel}
	case api.OpName:
		return part{[]api.Token{name(op.Text)}, unaryLevel}
	case api.OpCall:
		return call(op.Text, values)
	case api.OpLoad:
		return call("load", values)
	case api.OpIn:
		return call("in", values)
	case api.OpUnary:
		return part{slices.Concat([]api.Token{symbol(op.Text)}, values[0].as(unaryLevel)), unaryLevel}
	}
	n := levelOf(op.Text)
	// without parentheses, operations of one level are done from left to right
	return part{slices.Concat(values[0].as(n), []api.Token{symbol(op.Text)}, values[1].as(n+1)), n}
}

// call returns a name with values in parentheses.
func call(text string, values []part) part {
	tokens := []api.Token{name(text), symbol("(")}
	for i, v := range values {
		if i > 0 {
			tokens = append(tokens, symbol(","))
		}
		tokens = append(tokens, v.tokens...)
	}
	return part{append(tokens, symbol(")")), unaryLevel}
}

// as returns the tokens with which a part stands where an expression of a level has to stand.
func (p part) as(level int) []api.Token {
	if p.level >= level {
		return p.tokens
	}
	return slices.Concat([]api.Token{symbol("(")}, p.tokens, []api.Token{symbol(")")})
}

// name returns the token of a name.
func name(text string) api.Token { return api.Token{Kind: api.TokenName, Text: text} }

// symbol returns the token of a symbol.
func symbol(text string) api.Token { return api.Token{Kind: api.TokenSymbol, Text: text} }
