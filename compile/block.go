package compile

import (
	"maps"
	"slices"

	"licit/api"
	"licit/expr"
	"licit/token"
)

// block is a list of lines while they are compiled.
type block struct {
	*code
	visible   map[string]int // the indices of the variables that can be named
	depth     int            // in how many blocks of if, else and while it stands
	next, end int            // the lines that are still to be read
	before    *condition     // of the if whose lines are directly in front of the line that is being read; nil, if there is none
	behind    *condition     // likewise for the line that is read next
}

// condition is what the E of an if or a while became: a constant, which has no code, or code with an InsZero behind it.
type condition struct {
	constant bool
	value    uint32 // of a constant
	end      int    // where the InsZero ends, if it is not a constant
}

// isNever says whether a block with this condition is left out.
func (c condition) isNever() bool { return c.constant && c.value == 0 }

// compile compiles all lines: the first error of one of them.
func (b *block) compile() api.Errno {
	statements := b.statements()
	for b.next < b.end {
		b.before, b.behind = b.behind, nil
		l, e := b.line(b.next)
		if e != api.OK {
			return e
		}
		b.next++
		if len(l) == 0 {
			continue
		}
		statement, found := statements[l[0].Text]
		if !found {
			return api.ErrSyntax
		}
		if e := statement(l[1:]); e != api.OK {
			return e
		}
	}
	return api.OK
}

// statements returns what compiles the tokens behind each first word.
func (b *block) statements() map[string]func(l []api.Token) api.Errno {
	return map[string]func(l []api.Token) api.Errno{
		"let":    b.letStatement,
		"set":    b.setStatement,
		"return": b.returnStatement,
		"do":     b.doStatement,
		"out":    b.outStatement,
		"store":  b.storeStatement,
		"if":     b.ifStatement,
		"else":   b.elseStatement,
		"while":  b.whileStatement,
	}
}

// assigned adds the code of the E of NAME = E, and returns NAME: ErrSyntax, if the tokens are not so; the error of E.
func (b *block) assigned(l []api.Token) (string, api.Errno) {
	if len(l) < 2 || !token.Name(l[0].Text) || l[1].Text != "=" {
		return "", api.ErrSyntax
	}
	return l[0].Text, b.expression(l[2:])
}

// letStatement makes a variable: ErrTwice, if there is one with this name; ErrTooLarge, if there are too many.
func (b *block) letStatement(l []api.Token) api.Errno {
	name, e := b.assigned(l)
	if e != api.OK {
		return e
	}
	if _, found := b.visible[name]; found {
		return api.ErrTwice
	}
	if b.variables >= api.MaxLocals {
		return api.ErrTooLarge
	}
	i := b.variables
	b.variables++
	b.visible[name] = i
	return b.add(api.InsSet, byte(i))
}

// setStatement changes a variable: ErrName, if there is none with this name.
func (b *block) setStatement(l []api.Token) api.Errno {
	name, e := b.assigned(l)
	if e != api.OK {
		return e
	}
	i, found := b.visible[name]
	if !found {
		return api.ErrName
	}
	return b.add(api.InsSet, byte(i))
}

// simple adds the code of an expression and an instruction that takes its value.
func (b *block) simple(l []api.Token, ins byte) api.Errno {
	if e := b.expression(l); e != api.OK {
		return e
	}
	return b.add(ins)
}

// returnStatement ends the function with a value.
func (b *block) returnStatement(l []api.Token) api.Errno { return b.simple(l, api.InsReturn) }

// doStatement computes a value and drops it.
func (b *block) doStatement(l []api.Token) api.Errno { return b.simple(l, api.InsDrop) }

// outStatement puts a byte out.
func (b *block) outStatement(l []api.Token) api.Errno { return b.simple(l, api.InsOut) }

// storeStatement stores a word: ErrSyntax, if there is no symbol = between its address and its value.
func (b *block) storeStatement(l []api.Token) api.Errno {
	at := slices.IndexFunc(l, func(t api.Token) bool { return t.Text == "=" })
	if at < 0 {
		return api.ErrSyntax
	}
	if e := b.expression(l[:at]); e != api.OK {
		return e
	}
	return b.simple(l[at+1:], api.InsStore)
}

// counted divides tokens into E and the number N at their end: ErrSyntax, if there is no number; ErrShort, if the block does not have so many lines any more.
func (b *block) counted(l []api.Token) ([]api.Token, int, api.Errno) {
	last := len(l) - 1
	if last < 0 {
		return nil, 0, api.ErrSyntax
	}
	n, e := token.Number(l[last].Text)
	if e != api.OK {
		return nil, 0, api.ErrSyntax
	}
	if n > uint32(b.end-b.next) {
		return nil, 0, api.ErrShort
	}
	return l[:last], int(n), api.OK
}

// condition adds the code of the E of E N, and an InsZero, if E is not a constant; it returns N, too.
func (b *block) condition(l []api.Token) (condition, int, api.Errno) {
	l, n, e := b.counted(l)
	if e != api.OK {
		return condition{}, 0, e
	}
	f, e := expr.Parse(l)
	if e != api.OK {
		return condition{}, 0, e
	}
	if value, constant := expr.Value(f); constant {
		return condition{constant: true, value: value}, n, api.OK
	}
	if e := b.formula(f); e != api.OK {
		return condition{}, 0, e
	}
	end, e := b.jump(api.InsZero)
	return condition{end: end}, n, e
}

// inner compiles the next lines as a block within this one, or leaves them out: ErrDeep, if they would be too deep.
func (b *block) inner(n int, isRead bool) api.Errno {
	from := b.next
	b.next += n
	if !isRead {
		return api.OK
	}
	if b.depth == api.MaxDepth {
		return api.ErrDeep
	}
	// with names of its own, so that its variables end with it
	lines := &block{code: b.code, visible: maps.Clone(b.visible), depth: b.depth + 1, next: from, end: b.next}
	return lines.compile()
}

// ifStatement compiles a block that is left out, or jumped over, if E is 0.
func (b *block) ifStatement(l []api.Token) api.Errno {
	c, n, e := b.condition(l)
	if e != api.OK {
		return e
	}
	if e := b.inner(n, !c.isNever()); e != api.OK {
		return e
	}
	if !c.constant {
		b.aim(c.end, len(b.bytes))
	}
	b.behind = &c
	return api.OK
}

// elseStatement compiles a block for the case that the E of the if in front is 0: ErrSyntax, if there is no if.
func (b *block) elseStatement(l []api.Token) api.Errno {
	if b.before == nil || len(l) != 1 {
		return api.ErrSyntax
	}
	_, n, e := b.counted(l)
	if e != api.OK {
		return e
	}
	if b.before.constant {
		return b.inner(n, b.before.isNever())
	}
	end, e := b.jump(api.InsJump)
	if e != api.OK {
		return e
	}
	b.aim(b.before.end, end)
	if e := b.inner(n, true); e != api.OK {
		return e
	}
	b.aim(end, len(b.bytes))
	return api.OK
}

// whileStatement compiles a block that is repeated until E is 0.
func (b *block) whileStatement(l []api.Token) api.Errno {
	line, begin := b.at, len(b.bytes)
	c, n, e := b.condition(l)
	if e != api.OK {
		return e
	}
	if e := b.inner(n, !c.isNever()); e != api.OK || c.isNever() {
		return e
	}
	// the way back belongs to the line of the while, although all lines of the block were read since
	b.at = line
	end, e := b.jump(api.InsJump)
	if e != api.OK {
		return e
	}
	b.aim(end, begin)
	if !c.constant {
		b.aim(c.end, end)
	}
	return api.OK
}
