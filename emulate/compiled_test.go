package emulate

import (
	"fmt"
	"math/rand"
	"strings"
	"testing"

	"licit/api"
	"licit/binary"
	"licit/compile"
	"licit/expr"
	"licit/link"
)

// world is all that the bodies of functions can see and change. Functions have the addresses that they have in a machine.
type world struct {
	machine   *Machine          // as it was ahead of the run
	stored    map[uint32]uint32 // what was stored since
	addresses map[string]uint32
	functions map[uint32]*function
	input     string
	output    string
}

// load returns the word at an address.
func (w *world) load(address uint32) uint32 {
	if x, found := w.stored[address]; found {
		return x
	}
	x, e := w.machine.Word(address)
	if e != api.OK {
		panic(e)
	}
	return x
}

// next returns the next input byte.
func (w *world) next() uint32 {
	if w.input == "" {
		return 1<<32 - 1
	}
	b := w.input[0]
	w.input = w.input[1:]
	return uint32(b)
}

// variables are those of a call.
type variables map[string]uint32

// expression is the text of an expression, and its value.
type expression struct {
	text  string
	value func(w *world, v variables) uint32
}

// statement is the lines of a statement, and what it does: it returns the value of the function, if it ends it.
type statement struct {
	lines []string
	run   func(w *world, v variables) (uint32, bool)
}

// function is a function whose body is written together with its meaning.
type function struct {
	name   string
	params []string
	body   []statement
}

// call returns the value of a function.
func (f *function) call(w *world, args []uint32) uint32 {
	v := variables{}
	for i, p := range f.params {
		v[p] = args[i]
	}
	value, _ := runAll(f.body, w, v)
	return value
}

// runAll runs statements, until one of them ends the function.
func runAll(l []statement, w *world, v variables) (uint32, bool) {
	for _, s := range l {
		if value, ends := s.run(w, v); ends {
			return value, true
		}
	}
	return 0, false
}

// linesOf returns the lines of statements.
func linesOf(l []statement) []string {
	var lines []string
	for _, s := range l {
		lines = append(lines, s.lines...)
	}
	return lines
}

// source returns the lines of a function.
func (f *function) source() string {
	lines := linesOf(f.body)
	return strings.Join(append([]string{fmt.Sprint(strings.Join(append([]string{"export fn", f.name}, f.params...), " "), " ", len(lines))}, lines...), "\n")
}

// author writes functions.
type author struct {
	*rand.Rand
	data    string      // four words that can be stored
	callees []*function // what can be called
	visible []string    // the variables
	made    int
}

// name returns a name that no variable had before.
func (a *author) name() string {
	a.made++
	return fmt.Sprint("v", a.made)
}

// plain returns an expression that consists of one or two tokens, or of three.
func (a *author) plain() expression {
	switch k := a.Intn(6); {
	case k == 0:
		return expression{"in()", func(w *world, v variables) uint32 { return w.next() }}
	case k == 1:
		n := uint32(a.Intn(16) * 4)
		return expression{fmt.Sprintf("load(%d)", n), func(w *world, v variables) uint32 { return w.load(n) }}
	case k <= 3 && len(a.visible) > 0:
		name := a.visible[a.Intn(len(a.visible))]
		return expression{name, func(w *world, v variables) uint32 { return v[name] }}
	}
	n := []uint32{a.Uint32(), uint32(a.Intn(4))}[a.Intn(2)]
	return expression{fmt.Sprint(n), func(w *world, v variables) uint32 { return n }}
}

// expression returns an expression of some size, with parentheses everywhere.
func (a *author) expression(size int) expression {
	if size == 0 {
		return a.plain()
	}
	x := a.expression(a.Intn(size))
	switch k := a.Intn(8); {
	case k == 0:
		op := []string{"-", "~", "!"}[a.Intn(3)]
		return expression{op + " " + x.text, func(w *world, v variables) uint32 {
			value, _ := expr.Unary(op, x.value(w, v))
			return value
		}}
	case k == 1:
		data := a.data
		return expression{"load(" + data + " + ((" + x.text + " & 3) << 2))", func(w *world, v variables) uint32 {
			return w.load(w.addresses[data] + (x.value(w, v)&3)<<2)
		}}
	case k == 2 && len(a.callees) > 0:
		return a.call(size)
	}
	y := a.expression(size - 1)
	ops := strings.Fields("|| && | ^ & == != < <= > >= << >> + - * / %")
	op := ops[a.Intn(len(ops))]
	return expression{"(" + x.text + " " + op + " " + y.text + ")", func(w *world, v variables) uint32 {
		left := x.value(w, v)
		value, _ := expr.Binary(op, left, y.value(w, v))
		return value
	}}
}

// call returns a call of a function.
func (a *author) call(size int) expression {
	f := a.callees[a.Intn(len(a.callees))]
	var texts []string
	var args []expression
	for range f.params {
		x := a.expression(size / 3)
		texts, args = append(texts, x.text), append(args, x)
	}
	return expression{f.name + "(" + strings.Join(texts, ", ") + ")", func(w *world, v variables) uint32 {
		var values []uint32
		for _, x := range args {
			values = append(values, x.value(w, v))
		}
		return w.functions[w.addresses[f.name]].call(w, values)
	}}
}

// block returns some statements, whose variables are not visible behind them.
func (a *author) block(depth int) []statement {
	before := a.visible[:len(a.visible):len(a.visible)]
	defer func() { a.visible = before }()
	var l []statement
	for range a.Intn(4) + 1 {
		l = append(l, a.statement(depth))
	}
	return l
}

// does returns a statement that does not end the function.
func does(line string, run func(w *world, v variables)) statement {
	return statement{[]string{line}, func(w *world, v variables) (uint32, bool) {
		run(w, v)
		return 0, false
	}}
}

// statement returns a statement with blocks of some depth.
func (a *author) statement(depth int) statement {
	x := a.expression(a.Intn(4))
	switch k := a.Intn(12); {
	case k < 3:
		name := a.name()
		a.visible = append(a.visible, name)
		return does("let "+name+" = "+x.text, func(w *world, v variables) { v[name] = x.value(w, v) })
	case k < 5 && len(a.visible) > 0:
		name := a.visible[a.Intn(len(a.visible))]
		if strings.HasPrefix(name, "i") {
			break // the counter of a loop
		}
		return does("set "+name+" = "+x.text, func(w *world, v variables) { v[name] = x.value(w, v) })
	case k == 5:
		y, data := a.expression(2), a.data
		return does("store "+data+" + (("+x.text+" & 3) << 2) = "+y.text, func(w *world, v variables) {
			address := w.addresses[data] + (x.value(w, v)&3)<<2
			w.stored[address] = y.value(w, v)
		})
	case k == 6 && depth > 0:
		return a.loop(depth)
	case k <= 8 && depth > 0:
		return a.branch(x, depth)
	case k == 9 && a.Intn(3) == 0:
		return statement{[]string{"return " + x.text}, func(w *world, v variables) (uint32, bool) { return x.value(w, v), true }}
	case k == 10:
		return does("do "+x.text, func(w *world, v variables) { x.value(w, v) })
	}
	return does("out "+x.text, func(w *world, v variables) { w.output += string([]byte{byte(x.value(w, v))}) })
}

// branch returns an if, perhaps with an else.
func (a *author) branch(x expression, depth int) statement {
	yes := a.block(depth - 1)
	lines := append([]string{fmt.Sprint("if ", x.text, " ", len(linesOf(yes)))}, linesOf(yes)...)
	var no []statement
	if a.Intn(2) == 0 {
		no = a.block(depth - 1)
		lines = append(append(lines, fmt.Sprint("else ", len(linesOf(no)))), linesOf(no)...)
	}
	return statement{lines, func(w *world, v variables) (uint32, bool) {
		if x.value(w, v) != 0 {
			return runAll(yes, w, v)
		}
		return runAll(no, w, v)
	}}
}

// loop returns a loop that is done a few times.
func (a *author) loop(depth int) statement {
	a.made++
	name, turns := fmt.Sprint("i", a.made), uint32(a.Intn(4))
	before := a.visible[:len(a.visible):len(a.visible)]
	a.visible = append(a.visible, name)
	body := a.block(depth - 1)
	a.visible = before
	inner := append(linesOf(body), "set "+name+" = "+name+" - 1")
	// the block around it makes the counter a variable of its own
	lines := append([]string{fmt.Sprint("if 1 ", len(inner)+2), fmt.Sprint("let ", name, " = ", turns), fmt.Sprint("while ", name, " ", len(inner))}, inner...)
	return statement{lines, func(w *world, v variables) (uint32, bool) {
		for v[name] = turns; v[name] != 0; v[name]-- {
			if value, ends := runAll(body, w, v); ends {
				return value, true
			}
		}
		return 0, false
	}}
}

// functions returns some functions of a file that store its data, and call what others can be called.
func (a *author) functions(prefix string, n int, callees ...[]*function) []*function {
	a.data, a.callees = "data_"+prefix, nil
	for _, l := range callees {
		a.callees = append(a.callees, l...)
	}
	var l []*function
	for i := range n {
		f := &function{name: fmt.Sprint(prefix, i)}
		a.made = 0
		for range a.Intn(3) {
			f.params = append(f.params, a.name())
		}
		a.visible = f.params
		f.body = append(a.block(2), a.block(2)...)
		l = append(l, f)
		a.callees = append(a.callees, f)
	}
	return l
}

// object returns the object of a file with some data and functions, which mentions others, too.
func object(t *testing.T, name string, functions []*function, others ...[]*function) api.Member {
	t.Helper()
	prefix := functions[0].name[:1]
	text := "export data data_" + prefix + " 2\n1, 2\n3, " + functions[0].name
	for _, f := range functions {
		text += "\n" + f.source()
	}
	for _, l := range others {
		for _, f := range l {
			text += "\nextern " + f.name
		}
	}
	return compiled(t, name, text)
}

// compiled returns the object of a file with a text.
func compiled(t *testing.T, name, text string) api.Member {
	t.Helper()
	o, _, f := compile.Unit(api.Tree{{Path: "any/file", Data: text}}, "any/file", nil)
	if f.Error != api.OK {
		t.Fatal(text, f)
	}
	return api.Member{Name: name, Object: o}
}

// place lets a world know where the functions and the data of a linked program are.
func (w *world) place(t *testing.T, b, shared api.Binary, functions ...[]*function) {
	t.Helper()
	know := func(symbol string, address int) {
		w.addresses[symbol] = uint32(address)
		for _, l := range functions {
			for _, f := range l {
				if f.name == symbol {
					w.functions[uint32(address)] = f
				}
			}
		}
	}
	for _, p := range b.Places {
		address, found := w.machine.Address(p.Object, p.Symbol)
		if !found || address != uint32(64+p.At) {
			t.Fatal(p, address, found)
		}
		know(p.Symbol, int(address))
	}
	for _, x := range shared.Exports {
		know(x.Symbol, 64+(len(b.Image)+3)/4*4+x.At)
	}
}

// P13.3: functions of a program, of an archive and of a shared library that were compiled and linked compute what their bodies say.
func TestCompiledFunctions(t *testing.T) {
	a := &author{Rand: rand.New(rand.NewSource(15))}
	finished, said, imported := 0, 0, 0
	for range 1500 {
		s := a.functions("s", 2)
		l := a.functions("l", 2, s)
		m := a.functions("m", 3, s, l)
		// the last function of the program calls the others without being asked to
		main := m[2]
		main.params = nil
		a.visible, a.made, a.callees = nil, 0, append(append(append([]*function{}, s...), l...), m[:2]...)
		main.body = append(a.block(2), a.block(2)...)
		x := a.call(3)
		main.body = append(main.body, statement{[]string{"return " + x.text}, func(w *world, v variables) (uint32, bool) { return x.value(w, v), true }})

		shared, _, e := link.Share([]api.Member{object(t, "s/o", s)})
		if e != api.OK {
			t.Fatal(e)
		}
		libs := []api.Library{{Path: "s/lib", Binary: shared}}
		b, _, e := link.Link("m2", []api.Member{object(t, "m/o", m, s, l)}, []api.Shelf{{Path: "l/a", Members: []api.Member{object(t, "o", l, s)}}}, libs)
		if e != api.OK || binary.Check(b) != api.OK {
			t.Fatal(e)
		}
		machine := loaded(t, b, libs...)
		w := &world{machine: machine.Clone(), stored: map[uint32]uint32{}, addresses: map[string]uint32{}, functions: map[uint32]*function{}, input: "licit"}
		w.place(t, b, shared, s, l, m)
		r, e := machine.Call(64, w.input, api.MaxSteps)
		if e == api.ErrLimit {
			continue
		}
		finished++
		want := main.call(w, nil)
		if e != api.OK || r.Value != want || r.Output != w.output {
			t.Fatal(main.source(), r, e, want, w.output)
		}
		if again, f := Run(b, libs, "licit", r.Steps); f != api.OK || again != r {
			t.Fatal(again, f, r)
		}
		for i, x := range words(machine) {
			if x != w.load(uint32(4*i)) {
				t.Fatal(main.source(), i, x)
			}
		}
		if r.Output != "" {
			said++
		}
		if len(b.Imports) > 0 {
			imported++
		}
	}
	if finished < 1400 || said < 1200 || imported < 1200 {
		t.Error(finished, said, imported)
	}
}

// P13.3: programs that are written out.
func TestCompiledPrograms(t *testing.T) {
	for _, x := range []struct {
		main   string
		input  string
		value  uint32
		output string
	}{
		{"export fn main 1\nout 65", "", 0, "A"},
		{"export fn main 1\nreturn fib(15)\nfn fib n 3\nif n < 2 1\nreturn n\nreturn fib(n - 1) + fib(n - 2)", "", 610, ""},
		{"export fn main 7\nlet n = 0\nlet c = in()\nwhile c != -1 3\nset n = n * 10 + c - 48\nset c = in()\nout c\nreturn n", "1234", 1234, "234\xff"},
		{"data count 1\n3\nexport fn main 4\nwhile load(count) 2\nout 48 + load(count)\nstore count = load(count) - 1\nreturn count", "", 0, "321"},
		{"extern twice\nextern table\nexport fn main 4\nlet f = load(table + 4)\nout f(40)\nlet g = load(table)\nreturn twice(g, 5)\nfn own x 1\nreturn x * x", "", 20, "P"},
	} {
		shared, _, e := link.Share([]api.Member{compiled(t, "s/o", "export data table 1\ndouble, double\nfn double x 1\nreturn x + x\nexport fn twice f x 1\nreturn f(f(x))")})
		if e != api.OK {
			t.Fatal(e)
		}
		libs := []api.Library{{Path: "s/lib", Binary: shared}}
		b, _, e := link.Link("main", []api.Member{compiled(t, "m/o", x.main)}, nil, libs)
		if e != api.OK {
			t.Fatal(e)
		}
		if strings.HasPrefix(x.main, "data count") {
			at, _ := loaded(t, b, libs...).Address("m/o", "count")
			x.value = at
		}
		if r, e := Run(b, libs, x.input, api.MaxSteps); e != api.OK || r.Value != x.value || r.Output != x.output {
			t.Error(x.main, r, e)
		}
	}
}
