package compile

import (
	"slices"

	"licit/api"
	"licit/expr"
)

// endSize is the number of bytes of the instructions at the end of a function, for which there is always room.
const endSize = 1 + wordSize + 1

// function compiles the body as a function: the first error of one of its lines.
func (b *body) function(params []string) api.Errno {
	c := &code{body: b, variables: len(params)}
	visible := map[string]int{}
	for i, name := range params {
		visible[name] = i
	}
	// the number of all variables is known at the end
	b.bytes = []byte{byte(len(params)), 0}
	all := &block{code: c, visible: visible, next: b.span.From, end: b.span.To}
	if e := all.compile(); e != api.OK {
		return e
	}
	b.bytes[1] = byte(c.variables)
	b.bytes = append(b.bytes, api.InsPush)
	b.bytes = append(b.bytes, word(0)...)
	b.bytes = append(b.bytes, api.InsReturn)
	return api.OK
}

// code is the code of a function while it is compiled.
type code struct {
	*body
	variables int // how many were made
}

// add adds an instruction: ErrTooLarge, if there would be no room for the end of the function behind it.
func (c *code) add(ins byte, operand ...byte) api.Errno {
	if len(c.bytes)+1+len(operand) > api.MaxCode-endSize {
		return api.ErrTooLarge
	}
	c.bytes = append(c.bytes, ins)
	c.bytes = append(c.bytes, operand...)
	return api.OK
}

// jump adds a jump, and returns where it ends; where it goes is open.
func (c *code) jump(ins byte) (int, api.Errno) {
	e := c.add(ins, word(0)...)
	return len(c.bytes), e
}

// aim lets the jump that ends at some byte go to another byte.
func (c *code) aim(end, to int) {
	copy(c.bytes[end-wordSize:end], word(uint32(to-end)))
}

// expression adds the code of an expression in a block: the error of Parse, or of an operation.
func (b *block) expression(l []api.Token) api.Errno {
	f, e := expr.Parse(l)
	if e != api.OK {
		return e
	}
	return b.formula(f)
}

// formula adds the code of a formula: the first error of one of its operations.
func (b *block) formula(f api.Formula) api.Errno {
	folded, e := expr.Fold(f)
	if e != api.OK {
		return e
	}
	for _, op := range folded {
		if e := b.operation(op); e != api.OK {
			return e
		}
	}
	return api.OK
}

// operation adds the code of an operation: ErrName or ErrMismatch, if it cannot name or call what it names or calls; ErrTooLarge, if there is no room.
func (b *block) operation(op api.Op) api.Errno {
	switch op.Kind {
	case api.OpName:
		return b.name(op.Text)
	case api.OpCall:
		return b.call(op.Text, op.N)
	case api.OpLoad:
		return b.add(api.InsLoad)
	case api.OpIn:
		return b.add(api.InsIn)
	case api.OpUnary:
		return b.add(api.InsUnary, unaryIndex(op.Text))
	case api.OpBinary:
		return b.add(api.InsBinary, binaryIndex(op.Text))
	}
	return b.add(api.InsPush, word(op.N)...)
}

// name adds the code for the value of a variable, or the address of an item.
func (b *block) name(name string) api.Errno {
	if i, found := b.visible[name]; found {
		return b.add(api.InsGet, byte(i))
	}
	if e := b.refer(name, len(b.bytes)+1); e != api.OK {
		return e
	}
	return b.add(api.InsPush, word(0)...)
}

// call adds the code of a call behind that of its arguments: ErrMismatch, if they are not as many as the function of the unit has.
func (b *block) call(name string, n uint32) api.Errno {
	_, isVariable := b.visible[name]
	item := b.items[name]
	if !isVariable && item.Kind == api.ItemFn && len(item.Params) != int(n) {
		return api.ErrMismatch
	}
	if e := b.name(name); e != api.OK {
		return e
	}
	return b.add(api.InsCall, byte(n))
}

// unaryIndex returns the index of a unary operation.
func unaryIndex(op string) byte {
	return byte(slices.Index([]string{"-", "~", "!"}, op))
}

// binaryIndex returns the index of a binary operation.
func binaryIndex(op string) byte {
	return byte(slices.Index([]string{"||", "&&", "|", "^", "&", "==", "!=", "<", "<=", ">", ">=", "<<", ">>", "+", "-", "*", "/", "%"}, op))
}
