package compile

import (
	"maps"
	"slices"
	"strings"

	"licit/api"
	"licit/expand"
	"licit/expr"
	"licit/source"
	"licit/token"
	"licit/tree"
)

// model compiles an item by the words of the definition: the code of a block is that of its first statement, with the code of all that belongs to it, and that of the lines behind. It ends with a panic at the first error.
type model struct {
	tree   api.Tree
	u      api.Unit
	path   string
	lines  []string
	read   map[api.Line]bool
	relocs []api.Reloc
	made   int // variables
}

// compiled returns what Section has to return, and all lines that are read, with a fault, too.
func compiled(t api.Tree, u api.Unit, name string) (s api.Section, read map[api.Line]bool, f api.Fault) {
	item, _ := source.Find(u, name)
	data, _ := tree.Find(t, item.Body.Path)
	m := &model{tree: t, u: u, path: item.Body.Path, lines: strings.Split(data, "\n"), read: map[api.Line]bool{}, made: len(item.Params)}
	defer func() {
		read = m.read
		if p := recover(); p != nil {
			f = p.(api.Fault)
		}
	}()
	if item.Kind == api.ItemData {
		return api.Section{Kind: api.SectionData, Data: m.data(item.Body.From, item.Body.To, 0), Relocs: m.relocs}, nil, api.Fault{}
	}
	visible := map[string]int{}
	for i, p := range item.Params {
		visible[p] = i
	}
	text := m.block(item.Body.From, item.Body.To, 0, 2, visible)
	text = string([]byte{byte(len(item.Params)), byte(m.made)}) + text + "\x01\x00\x00\x00\x00\x0d"
	return api.Section{Kind: api.SectionCode, Data: text, Relocs: m.relocs}, nil, api.Fault{}
}

// must ends compiling if there is an error at a line.
func (m *model) must(e api.Errno, n int) {
	if e != api.OK {
		panic(api.Fault{Error: e, Package: -1, Step: -1, At: api.Line{Path: m.path, N: n}})
	}
}

// hold ends compiling with an error at a line if something does not hold.
func (m *model) hold(holds bool, e api.Errno, n int) {
	if !holds {
		m.must(e, n)
	}
}

// take reads a line.
func (m *model) take(n int) []api.Token {
	m.read[api.Line{Path: m.path, N: n}] = true
	l, e := token.Tokens(m.lines[n])
	m.must(e, n)
	l, read, e := expand.Line(m.tree, m.u, l)
	m.must(e, n)
	for _, s := range read {
		for i := s.From; i < s.To; i++ {
			m.read[api.Line{Path: s.Path, N: i}] = true
		}
	}
	return l
}

// ins returns an instruction that begins at a byte.
func (m *model) ins(n, at int, code ...byte) string {
	m.hold(at+len(code) <= api.MaxCode-6, api.ErrTooLarge, n)
	return string(code)
}

// far returns an instruction with a word.
func (m *model) far(n, at int, code byte, w int) string {
	u := uint32(w)
	return m.ins(n, at, code, byte(u), byte(u>>8), byte(u>>16), byte(u>>24))
}

// name returns the code of a name.
func (m *model) name(name string, n, at int, visible map[string]int) string {
	if i, found := visible[name]; found {
		return m.ins(n, at, api.InsGet, byte(i))
	}
	_, found := source.Find(m.u, name)
	m.hold(found, api.ErrName, n)
	m.relocs = append(m.relocs, api.Reloc{At: at + 1, Symbol: name})
	return m.far(n, at, api.InsPush, 0)
}

// expression returns the code of an expression that is parsed.
func (m *model) expression(f api.Formula, n, at int, visible map[string]int) string {
	f, _ = expr.Fold(f)
	text := ""
	for _, op := range f {
		here := at + len(text)
		switch op.Kind {
		case api.OpNumber:
			text += m.far(n, here, api.InsPush, int(op.N))
		case api.OpName:
			text += m.name(op.Text, n, here, visible)
		case api.OpCall:
			_, isVariable := visible[op.Text]
			item, found := source.Find(m.u, op.Text)
			m.hold(found || isVariable, api.ErrName, n)
			m.hold(isVariable || item.Kind != api.ItemFn || len(item.Params) == int(op.N), api.ErrMismatch, n)
			text += m.name(op.Text, n, here, visible)
			text += m.ins(n, at+len(text), api.InsCall, byte(op.N))
		case api.OpLoad:
			text += m.ins(n, here, api.InsLoad)
		case api.OpIn:
			text += m.ins(n, here, api.InsIn)
		case api.OpUnary:
			text += m.ins(n, here, api.InsUnary, byte(slices.Index(unaryOps, op.Text)))
		case api.OpBinary:
			text += m.ins(n, here, api.InsBinary, byte(slices.Index(binaryOps, op.Text)))
		}
	}
	return text
}

// parsed returns the code of the tokens of an expression.
func (m *model) parsed(l []api.Token, n, at int, visible map[string]int) string {
	f, e := expr.Parse(l)
	m.must(e, n)
	return m.expression(f, n, at, visible)
}

// block returns the code of the lines of a block, which begins at a byte.
func (m *model) block(from, to, depth, at int, visible map[string]int) string {
	if from == to {
		return ""
	}
	l := m.take(from)
	word := ""
	if len(l) > 0 {
		word = l[0].Text
	}
	text := ""
	isAssignment := len(l) > 2 && token.Name(l[1].Text) && l[2].Text == "="
	switch word {
	case "":
		m.hold(len(l) == 0, api.ErrSyntax, from)
	case "let":
		m.hold(isAssignment, api.ErrSyntax, from)
		text = m.parsed(l[3:], from, at, visible)
		_, found := visible[l[1].Text]
		m.hold(!found, api.ErrTwice, from)
		m.hold(m.made < api.MaxLocals, api.ErrTooLarge, from)
		text += m.ins(from, at+len(text), api.InsSet, byte(m.made))
		visible = maps.Clone(visible)
		visible[l[1].Text] = m.made
		m.made++
	case "set":
		m.hold(isAssignment, api.ErrSyntax, from)
		text = m.parsed(l[3:], from, at, visible)
		i, found := visible[l[1].Text]
		m.hold(found, api.ErrName, from)
		text += m.ins(from, at+len(text), api.InsSet, byte(i))
	case "return", "do", "out":
		text = m.parsed(l[1:], from, at, visible)
		text += m.ins(from, at+len(text), map[string]byte{"return": api.InsReturn, "do": api.InsDrop, "out": api.InsOut}[word])
	case "store":
		i := slices.IndexFunc(l, func(t api.Token) bool { return t.Text == "=" })
		m.hold(i >= 0, api.ErrSyntax, from)
		text = m.parsed(l[1:i], from, at, visible)
		text += m.parsed(l[i+1:], from, at+len(text), visible)
		text += m.ins(from, at+len(text), api.InsStore)
	case "if":
		var next int
		text, next = m.branch(l, from, to, depth, at, visible)
		return text + m.block(next, to, depth, at+len(text), visible)
	case "while":
		var next int
		text, next = m.loop(l, from, to, depth, at, visible)
		return text + m.block(next, to, depth, at+len(text), visible)
	default:
		m.hold(false, api.ErrSyntax, from)
	}
	return text + m.block(from+1, to, depth, at+len(text), visible)
}

// size returns the N at the end of a line of a block.
func (m *model) size(l []api.Token, n, to int) int {
	size, e := token.Number(l[len(l)-1].Text)
	m.hold(e == api.OK, api.ErrSyntax, n)
	m.hold(n+1+int(size) <= to, api.ErrShort, n)
	return int(size)
}

// inner returns the code of a block in a block of some depth.
func (m *model) inner(n, from, to, depth, at int, visible map[string]int) string {
	m.hold(depth < api.MaxDepth, api.ErrDeep, n)
	return m.block(from, to, depth+1, at, visible)
}

// branch returns the code of an if with its else, and the line behind them.
func (m *model) branch(l []api.Token, n, to, depth, at int, visible map[string]int) (string, int) {
	other := n + 1 + m.size(l, n, to)
	f, e := expr.Parse(l[1 : len(l)-1])
	m.must(e, n)
	value, constant := expr.Value(f)
	test, zero := "", ""
	if !constant {
		test = m.expression(f, n, at, visible)
		zero = m.far(n, at+len(test), api.InsZero, 0)
	}
	then := ""
	if !constant || value != 0 {
		then = m.inner(n, n+1, other, depth, at+len(test+zero), visible)
	}
	var l2 []api.Token
	if other < to {
		l2 = m.take(other)
	}
	if len(l2) == 0 || l2[0].Text != "else" {
		if !constant {
			zero = m.far(n, 0, api.InsZero, len(then))
		}
		return test + zero + then, other
	}
	m.hold(len(l2) == 2, api.ErrSyntax, other)
	next := other + 1 + m.size(l2, other, to)
	switch {
	case constant && value != 0:
		return then, next
	case constant:
		return m.inner(other, other+1, next, depth, at, visible), next
	}
	jump := m.far(other, at+len(test+zero+then), api.InsJump, 0)
	otherwise := m.inner(other, other+1, next, depth, at+len(test+zero+then+jump), visible)
	return test + m.far(n, 0, api.InsZero, len(then+jump)) + then + m.far(n, 0, api.InsJump, len(otherwise)) + otherwise, next
}

// loop returns the code of a while, and the line behind it.
func (m *model) loop(l []api.Token, n, to, depth, at int, visible map[string]int) (string, int) {
	next := n + 1 + m.size(l, n, to)
	f, e := expr.Parse(l[1 : len(l)-1])
	m.must(e, n)
	value, constant := expr.Value(f)
	if constant && value == 0 {
		return "", next
	}
	test, zero := "", ""
	if !constant {
		test = m.expression(f, n, at, visible)
		zero = m.far(n, at+len(test), api.InsZero, 0)
	}
	repeated := m.inner(n, n+1, next, depth, at+len(test+zero), visible)
	size := len(test + zero + repeated)
	m.far(n, at+size, api.InsJump, 0)
	if !constant {
		zero = m.far(n, 0, api.InsZero, len(repeated)+5)
	}
	return test + zero + repeated + m.far(n, 0, api.InsJump, -size-5), next
}

// data returns the words of lines of data, which begin at a byte.
func (m *model) data(from, to, at int) string {
	text := ""
	for n := from; n < to; n++ {
		l := m.take(n)
		for len(l) > 0 {
			end := 0
			for end < len(l) && (l[end].Text != "," || closed(l[:end]) != 0) {
				end++
			}
			text += m.word(l[:end], n, at+len(text))
			if end == len(l) {
				break
			}
			l = l[end+1:]
			// behind the last comma there is a part without tokens
			m.hold(len(l) > 0, api.ErrSyntax, n)
		}
	}
	return text
}

// closed returns how many more parentheses are opened than closed.
func closed(l []api.Token) int {
	n := 0
	for _, t := range l {
		n += strings.Count(t.Text, "(") - strings.Count(t.Text, ")")
	}
	return n
}

// word returns the word of a part of data.
func (m *model) word(l []api.Token, n, at int) string {
	m.hold(len(l) > 0, api.ErrSyntax, n)
	w := uint32(0)
	if len(l) == 1 && token.Name(l[0].Text) {
		_, found := source.Find(m.u, l[0].Text)
		m.hold(found, api.ErrName, n)
		m.relocs = append(m.relocs, api.Reloc{At: at, Symbol: l[0].Text})
	} else {
		f, e := expr.Parse(l)
		m.must(e, n)
		value, constant := expr.Value(f)
		m.hold(constant, api.ErrSyntax, n)
		w = value
	}
	m.hold(at+4 <= api.MaxCode, api.ErrTooLarge, n)
	return string([]byte{byte(w), byte(w >> 8), byte(w >> 16), byte(w >> 24)})
}
