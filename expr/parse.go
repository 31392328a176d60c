package expr

import (
	"licit/api"
	"licit/token"
)

// parser turns tokens into a formula. Each of its functions parses a part of an expression from the next token on, and returns the first error there; after an error nothing is parsed any more.
type parser struct {
	tokens  []api.Token
	at      int
	depth   int // how many parentheses and unary operations the next token is within
	formula api.Formula
	levels  [unaryLevel + 1]func() api.Errno // what parses an expression of a level, from 1 on
}

// level parses the binary operations of one level.
type level struct {
	*parser
	n int
}

// Parse returns the formula of an expression: ErrTooLarge, if there are too many tokens; ErrArg, if one is not valid; then the first one from the left of ErrSyntax, if the tokens are no expression, ErrDeep, if it is nested too deeply, and ErrTooLarge, if a call has too many arguments.
func Parse(l []api.Token) (api.Formula, api.Errno) {
	// tokens that have a text are valid, and not too many
	if _, e := token.Print(l); e != api.OK {
		return nil, e
	}
	p := &parser{tokens: l}
	for n := 1; n < unaryLevel; n++ {
		p.levels[n] = level{p, n}.binary
	}
	p.levels[unaryLevel] = p.unary
	if e := p.expression(); e != api.OK {
		return nil, e
	}
	if p.at < len(l) {
		return nil, api.ErrSyntax
	}
	return p.formula, api.OK
}

// next returns the text of the next token; at the end the empty string, which no token has.
func (p *parser) next() string {
	if p.at == len(p.tokens) {
		return ""
	}
	return p.tokens[p.at].Text
}

// then adds an operation behind its operands, if they have no error, and returns the error.
func (p *parser) then(e api.Errno, op api.Op) api.Errno {
	if e == api.OK {
		p.formula = append(p.formula, op)
	}
	return e
}

// expression parses an expression.
func (p *parser) expression() api.Errno { return p.levels[1]() }

// binary parses an expression of the level: operands of the next level with operations between them, of which each is done before those to the right of it.
func (l level) binary() api.Errno {
	operand := l.levels[l.n+1]
	e := operand()
	for e == api.OK && levelOf(l.next()) == l.n {
		op := l.next()
		l.at++
		e = l.then(operand(), api.Op{Kind: api.OpBinary, Text: op})
	}
	return e
}

// unary parses unary operations and what they are applied to.
func (p *parser) unary() api.Errno {
	op := p.next()
	if !isUnary(op) {
		return p.primary()
	}
	return p.then(p.nest(p.unary), api.Op{Kind: api.OpUnary, Text: op})
}

// nest parses what is within the next token, behind it: ErrDeep, if this token is itself within too many others.
func (p *parser) nest(inner func() api.Errno) api.Errno {
	if p.depth > api.MaxDepth {
		return api.ErrDeep
	}
	p.depth++
	p.at++
	e := inner()
	p.depth--
	return e
}

// inParentheses parses something in parentheses.
func (p *parser) inParentheses(inner func() api.Errno) api.Errno {
	if p.next() != "(" {
		return api.ErrSyntax
	}
	if e := p.nest(inner); e != api.OK {
		return e
	}
	if p.next() != ")" {
		return api.ErrSyntax
	}
	p.at++
	return api.OK
}

// primary parses what stands between operations.
func (p *parser) primary() api.Errno {
	text := p.next()
	switch {
	case text == "(":
		return p.inParentheses(p.expression)
	case text == "load":
		p.at++
		return p.then(p.inParentheses(p.expression), api.Op{Kind: api.OpLoad})
	case text == "in":
		p.at++
		return p.then(p.inParentheses(p.nothing), api.Op{Kind: api.OpIn})
	case token.Name(text):
		p.at++
		return p.named(text)
	}
	n, e := token.Number(text)
	if e != api.OK {
		return api.ErrSyntax
	}
	p.at++
	return p.then(api.OK, api.Op{Kind: api.OpNumber, N: n})
}

// nothing parses nothing.
func (p *parser) nothing() api.Errno { return api.OK }

// named parses what is behind an identifier: the arguments, if it is a call.
func (p *parser) named(name string) api.Errno {
	if p.next() != "(" {
		return p.then(api.OK, api.Op{Kind: api.OpName, Text: name})
	}
	count := 0
	e := p.inParentheses(func() api.Errno {
		var e api.Errno
		count, e = p.arguments()
		return e
	})
	return p.then(e, api.Op{Kind: api.OpCall, Text: name, N: uint32(count)})
}

// arguments parses the arguments of a call, and returns how many they are: ErrTooLarge, if there is a comma behind the last one that a call may have.
func (p *parser) arguments() (int, api.Errno) {
	if p.next() == ")" {
		return 0, api.OK
	}
	for count := 1; ; count++ {
		if e := p.expression(); e != api.OK {
			return 0, e
		}
		if p.next() != "," {
			return count, api.OK
		}
		if count == api.MaxParams {
			return 0, api.ErrTooLarge
		}
		p.at++
	}
}
