package compile

import (
	"maps"
	"math/rand"
	"slices"
	"strings"
	"testing"

	"licit/api"
	"licit/expand"
	"licit/expr"
	"licit/token"
	"licit/tree"
)

// world is all that a run can see and change: memory, input and output. The address of an item is a number that is the same for all runs.
type world struct {
	memory map[uint32]uint32
	input  string
	output string
	left   int // how many steps there are
}

// addressOf returns the address of an item.
func addressOf(u api.Unit, name string) uint32 {
	return 1000 * uint32(1+slices.IndexFunc(u.Items, func(i api.Item) bool { return i.Name == name }))
}

// stopped is the panic of a run that takes too long, or calls what it cannot call.
type stopped struct{}

// step takes a step.
func (w *world) step() {
	if w.left--; w.left < 0 {
		panic(stopped{})
	}
}

// next returns the next input byte.
func (w *world) next() uint32 {
	if w.input == "" {
		return 1<<32 - 1
	}
	b := w.input[0]
	w.input = w.input[1:]
	return uint32(b)
}

// ended runs something, and says whether it has come to its end.
func ended(run func()) (ends bool) {
	defer func() {
		p := recover()
		if _, is := p.(stopped); p != nil && !is {
			panic(p)
		}
		ends = p == nil
	}()
	run()
	return true
}

// reader runs the lines of a function as they are written: it knows no code.
type reader struct {
	*world
	tree  api.Tree
	u     api.Unit
	lines []string
}

// variables are those that a line sees, with the block to which they belong.
type variables []*struct {
	name  string
	value uint32
}

// get returns the variable with a name.
func (v variables) get(name string) *uint32 {
	for _, x := range v {
		if x.name == name {
			return &x.value
		}
	}
	return nil
}

// call returns the value of the item at an address.
func (r *reader) call(address uint32, args []uint32) uint32 {
	r.step()
	at := int(address/1000) - 1
	if address%1000 != 0 || at < 0 || at >= len(r.u.Items) || r.u.Items[at].Kind != api.ItemFn || len(r.u.Items[at].Params) != len(args) {
		panic(stopped{})
	}
	item := r.u.Items[at]
	var v variables
	for i, p := range item.Params {
		v = append(v, &struct {
			name  string
			value uint32
		}{p, args[i]})
	}
	value, _ := r.block(item.Body.From, item.Body.To, v)
	return value
}

// value returns the value of an expression, without folding it.
func (r *reader) value(l []api.Token, v variables) uint32 {
	f, _ := expr.Parse(l)
	var stack []uint32
	for _, op := range f {
		n := map[int]int{api.OpCall: int(op.N), api.OpLoad: 1, api.OpUnary: 1, api.OpBinary: 2}[op.Kind]
		args := slices.Clone(stack[len(stack)-n:])
		var x uint32
		switch op.Kind {
		case api.OpNumber:
			x = op.N
		case api.OpName:
			x = r.named(op.Text, v)
		case api.OpCall:
			x = r.call(r.named(op.Text, v), args)
		case api.OpLoad:
			x = r.memory[args[0]]
		case api.OpIn:
			x = r.next()
		case api.OpUnary:
			x, _ = expr.Unary(op.Text, args[0])
		case api.OpBinary:
			x, _ = expr.Binary(op.Text, args[0], args[1])
		}
		stack = append(stack[:len(stack)-n], x)
	}
	return stack[0]
}

// named returns the value of a variable, or the address of an item.
func (r *reader) named(name string, v variables) uint32 {
	if x := v.get(name); x != nil {
		return *x
	}
	return addressOf(r.u, name)
}

// block runs the lines of a block, and returns the value of the function, if they have returned it.
func (r *reader) block(from, to int, v variables) (uint32, bool) {
	was := uint32(0) // the value of the if in front
	for n := from; n < to; n++ {
		r.step()
		l, _ := token.Tokens(r.lines[n])
		l, _, _ = expand.Line(r.tree, r.u, l)
		if len(l) == 0 {
			continue
		}
		last := len(l) - 1
		size, _ := token.Number(l[last].Text)
		switch l[0].Text {
		case "let":
			v = append(slices.Clone(v), &struct {
				name  string
				value uint32
			}{l[1].Text, r.value(l[3:], v)})
		case "set":
			x := r.value(l[3:], v)
			*v.get(l[1].Text) = x
		case "return":
			return r.value(l[1:], v), true
		case "do":
			r.value(l[1:], v)
		case "out":
			r.output += string([]byte{byte(r.value(l[1:], v))})
		case "store":
			at := slices.IndexFunc(l, func(t api.Token) bool { return t.Text == "=" })
			address := r.value(l[1:at], v)
			r.memory[address] = r.value(l[at+1:], v)
		case "if":
			if was = r.value(l[1:last], v); was != 0 {
				if x, returned := r.block(n+1, n+1+int(size), v); returned {
					return x, true
				}
			}
			n += int(size)
		case "else":
			if was == 0 {
				if x, returned := r.block(n+1, n+1+int(size), v); returned {
					return x, true
				}
			}
			n += int(size)
		case "while":
			for r.value(l[1:last], v) != 0 {
				r.step()
				if x, returned := r.block(n+1, n+1+int(size), v); returned {
					return x, true
				}
			}
			n += int(size)
		}
	}
	return 0, false
}

// machine runs the code of functions.
type machine struct {
	*world
	functions map[uint32]string // by their addresses
}

// load returns a machine with all functions of a unit that can be compiled.
func load(tr api.Tree, u api.Unit, w *world) *machine {
	m := &machine{world: w, functions: map[uint32]string{}}
	for _, i := range u.Items {
		s, _, f := Section(tr, u, i.Name)
		if f.Error != api.OK || s.Kind != api.SectionCode {
			continue
		}
		code := []byte(s.Data)
		for _, r := range s.Relocs {
			a := addressOf(u, r.Symbol)
			copy(code[r.At:], []byte{byte(a), byte(a >> 8), byte(a >> 16), byte(a >> 24)})
		}
		m.functions[addressOf(u, i.Name)] = string(code)
	}
	return m
}

// call runs the function at an address.
func (m *machine) call(address uint32, args []uint32) uint32 {
	code, found := m.functions[address]
	if !found || int(code[0]) != len(args) {
		panic(stopped{})
	}
	v := make([]uint32, code[1])
	copy(v, args)
	var stack []uint32
	push := func(x uint32) { stack = append(stack, x) }
	take := func() uint32 {
		x := stack[len(stack)-1]
		stack = stack[:len(stack)-1]
		return x
	}
	for at := 2; ; {
		m.step()
		ins := code[at]
		at += map[byte]int{1: 5, 2: 2, 3: 2, 8: 2, 9: 2, 10: 5, 11: 5, 12: 2}[ins]
		w := uint32(0)
		if ins == 1 || ins == 10 || ins == 11 {
			w = uint32(code[at-4]) | uint32(code[at-3])<<8 | uint32(code[at-2])<<16 | uint32(code[at-1])<<24
		}
		switch ins {
		case 1:
			push(w)
		case 2:
			push(v[code[at-1]])
		case 3:
			v[code[at-1]] = take()
		case 4:
			push(m.memory[take()])
		case 5:
			value := take()
			m.memory[take()] = value
		case 6:
			push(m.next())
		case 7:
			m.output += string([]byte{byte(take())})
		case 8:
			x, _ := expr.Unary(unaryOps[code[at-1]], take())
			push(x)
		case 9:
			right := take()
			x, _ := expr.Binary(binaryOps[code[at-1]], take(), right)
			push(x)
		case 10:
			at += int(int32(w))
		case 11:
			if take() == 0 {
				at += int(int32(w))
			}
		case 12:
			n := int(code[at-1])
			function := take()
			args := slices.Clone(stack[len(stack)-n:])
			stack = stack[:len(stack)-n]
			push(m.call(function, args))
		case 13:
			return take()
		case 14:
			take()
		}
		if ins >= 4 && ins <= 7 || ins > 12 {
			at++
		}
	}
}

// P9.1: a function that was compiled computes what its body says.
func TestRuns(t *testing.T) {
	w := &writer{Rand: rand.New(rand.NewSource(6)), runs: true}
	finished, said := 0, 0
	for range 5000 {
		head, text := w.item()
		if head == "data t" {
			continue
		}
		// the functions that it calls do something, too
		tr := fileOf(head, text)
		tr[0].Data = strings.Replace(strings.Replace(tr[0].Data, "fn f a b 0", "fn f a b 2\nout a\nreturn a - b", 1), "fn g 0", "fn g 1\nreturn in() + 1", 1)
		u := scanned(t, tr)
		// sum within itself is no macro, and no item
		if _, _, f := Section(tr, u, "t"); f.Error != api.OK {
			continue
		}
		data, _ := tree.Find(tr, "a/m")
		read := &reader{world: &world{memory: map[uint32]uint32{}, input: "licit", left: 500}, tree: tr, u: u, lines: strings.Split(data, "\n")}
		code := load(tr, u, &world{memory: map[uint32]uint32{}, input: "licit", left: 1 << 20})
		args := []uint32{w.Uint32() % 3, w.Uint32()}
		var want, value uint32
		if !ended(func() { want = read.call(addressOf(u, "t"), args) }) {
			continue
		}
		finished++
		if len(read.output) > 0 {
			said++
		}
		if !ended(func() { value = code.call(addressOf(u, "t"), args) }) || value != want || read.input != code.input || read.output != code.output || !maps.Equal(read.memory, code.memory) {
			t.Fatal(head, text, want, value, read.output, code.output)
		}
	}
	if finished < 2000 || said < 500 {
		t.Error(finished, said)
	}
}

// P9.1: programs that are written out compute what they should.
func TestPrograms(t *testing.T) {
	for _, x := range []struct {
		text   string
		x      uint32
		value  uint32
		output string
	}{
		{"let n = 1;while x 2;set n = n * x;set x = x - 1;return n", 5, 120, ""},
		{"if x < 2 1;return x;return t(x - 1) + t(x - 2)", 10, 55, ""},
		{"while x 6;if x % 2 2;out 65;let a = 1;else 1;out 66;set x = x - 1;return x - 1", 4, 1<<32 - 1, "BABA"},
		{"store 8 = x;let p = 8;return load(p) + load(4 * 2) + load(0)", 21, 42, ""},
		{"while 1 5;let c = in();if c == -1 1;return x;out c + x;;return 7", 1, 1, "mjdju"},
		{"if 0 1;?;else 2;out 72;if 1 0;out 73", 0, 0, "HI"},
		{"let q = t;if x 1;return q(x - 1) + 1;out 88", 3, 3, "X"},
	} {
		tr := fileOf("fn t x", x.text)
		u := scanned(t, tr)
		w := &world{memory: map[uint32]uint32{}, input: "licit", left: 1 << 20}
		m := load(tr, u, w)
		var value uint32
		if !ended(func() { value = m.call(addressOf(u, "t"), []uint32{x.x}) }) || value != x.value || w.output != x.output {
			t.Error(x.text, value, w.output)
		}
	}
}
