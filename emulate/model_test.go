package emulate

import (
	"fmt"
	"math/rand"
	"strings"

	"licit/api"
	"licit/expr"
)

// plain is a machine by the words of the chapter: a frame is a call of a method.
type plain struct {
	memory        []byte
	frames        int
	values        int // in all frames
	steps, limit  int
	input, output string
	read          int  // how many bytes of the input
	ended         bool // whether its end was met
}

// plainMemory returns the memory of a program that can be loaded.
func plainMemory(b api.Binary, libs []api.Library) []byte {
	all := make([]byte, api.LoadBase)
	addresses := map[string]int{}
	fix := func(at, n int) {
		w := int(all[at]) + int(all[at+1])<<8 + int(all[at+2])<<16 + int(all[at+3])<<24 + n
		copy(all[at:], []byte{byte(w), byte(w >> 8), byte(w >> 16), byte(w >> 24)})
	}
	for i, x := range append([]api.Library{{Binary: b}}, libs...) {
		base := len(all)
		all = append(all, x.Binary.Image...)
		all = append(all, "\x00\x00\x00"[:(4-len(all)%4)%4]...)
		for _, at := range x.Binary.Fixups {
			fix(base+at, base)
		}
		for _, s := range x.Binary.Exports {
			if i > 0 {
				addresses[x.Path+":"+s.Symbol] = base + s.At
			}
		}
	}
	for _, x := range b.Imports {
		fix(api.LoadBase+x.At, addresses[x.Library+":"+x.Symbol])
	}
	return all
}

// word returns where the word at an address is in the memory, and whether there is one.
func (p *plain) word(address uint32) (int, bool) {
	return int(address), address%4 == 0 && uint64(address)+4 <= uint64(len(p.memory))
}

// little returns the number that some bytes are.
func little(bytes []byte) uint32 {
	n := uint32(0)
	for i := len(bytes) - 1; i >= 0; i-- {
		n = n*256 + uint32(bytes[i])
	}
	return n
}

// call calls the function at an address, and executes instructions until its frame is closed.
func (p *plain) call(address uint32, args []uint32) (uint32, api.Errno) {
	at := int64(address)
	if at+1 >= int64(len(p.memory)) {
		return 0, api.ErrRange
	}
	if int(p.memory[at]) != len(args) {
		return 0, api.ErrMismatch
	}
	if p.memory[at+1] < p.memory[at] || p.memory[at+1] > 64 {
		return 0, api.ErrCorrupt
	}
	if p.frames == 64 {
		return 0, api.ErrDeep
	}
	p.frames++
	variables := make([]uint32, p.memory[at+1])
	copy(variables, args)
	before := p.values
	var stack []uint32
	for at += 2; ; {
		next, value, end, e := p.instruction(at, variables, &stack)
		if e != api.OK {
			return 0, e
		}
		p.values = before + len(stack)
		if end {
			p.frames--
			p.values = before
			return value, api.OK
		}
		at = next
	}
}

// instruction executes the instruction at an address, and returns where the next one is, or the value of the function and that it has ended.
func (p *plain) instruction(at int64, variables []uint32, stack *[]uint32) (next int64, value uint32, end bool, e api.Errno) {
	if p.steps == p.limit {
		return 0, 0, false, api.ErrLimit
	}
	if at < 0 || at >= int64(len(p.memory)) {
		return 0, 0, false, api.ErrRange
	}
	ins := p.memory[at]
	if ins == 0 || ins > 14 {
		return 0, 0, false, api.ErrCorrupt
	}
	size := map[byte]int64{1: 4, 2: 1, 3: 1, 8: 1, 9: 1, 10: 4, 11: 4, 12: 1}[ins]
	next = at + 1 + size
	if next > int64(len(p.memory)) {
		return 0, 0, false, api.ErrRange
	}
	x := little(p.memory[at+1 : next])
	if (ins == 2 || ins == 3) && int(x) >= len(variables) || ins == 8 && x > 2 || ins == 9 && x > 17 {
		return 0, 0, false, api.ErrCorrupt
	}
	n := map[byte]int{3: 1, 4: 1, 5: 2, 7: 1, 8: 1, 9: 2, 11: 1, 12: 1 + int(x), 13: 1, 14: 1}[ins]
	if len(*stack) < n {
		return 0, 0, false, api.ErrState
	}
	taken := append([]uint32{}, (*stack)[len(*stack)-n:]...)
	*stack = (*stack)[:len(*stack)-n]
	p.values -= n
	gives := true
	switch ins {
	case 1:
		value = x
	case 2:
		value = variables[x]
	case 4:
		w, found := p.word(taken[0])
		if !found {
			return 0, 0, false, api.ErrRange
		}
		value = little(p.memory[w : w+4])
	case 6:
		value = 1<<32 - 1
		if p.read == len(p.input) {
			p.ended = true
		} else {
			value = uint32(p.input[p.read])
			p.read++
		}
	case 8:
		value, _ = expr.Unary(strings.Fields("- ~ !")[x], taken[0])
	case 9:
		value, _ = expr.Binary(strings.Fields("|| && | ^ & == != < <= > >= << >> + - * / %")[x], taken[0], taken[1])
	case 12:
		p.steps++ // ahead of those of the function
		if value, e = p.call(taken[n-1], taken[:n-1]); e != api.OK {
			return 0, 0, false, e
		}
		p.steps--
	default:
		gives = false
	}
	switch ins {
	case 3:
		variables[x] = taken[0]
	case 5:
		w, found := p.word(taken[0])
		if !found {
			return 0, 0, false, api.ErrRange
		}
		copy(p.memory[w:], wordOf(taken[1]))
	case 7:
		p.output += string([]byte{byte(taken[0])})
	case 10:
		next += int64(int32(x))
	case 11:
		if taken[0] == 0 {
			next += int64(int32(x))
		}
	case 13:
		p.steps++
		return 0, taken[0], true, api.OK
	}
	if gives {
		if p.values == 1024 {
			return 0, 0, false, api.ErrFull
		}
		*stack = append(*stack, value)
	}
	p.steps++
	return next, 0, false, api.OK
}

// result calls the function at an address from outside.
func (p *plain) result(address uint32, input string, limit int, args []uint32) (api.Result, api.Errno) {
	p.frames, p.values, p.steps, p.limit, p.input, p.output, p.read, p.ended = 0, 0, 0, limit, input, "", 0, false
	value, e := p.call(address, args)
	if e != api.OK {
		return api.Result{}, e
	}
	return api.Result{Value: value, Output: p.output, Steps: p.steps}, api.OK
}

// writer writes random programs.
type writer struct {
	*rand.Rand
	names  []string       // what words can mean
	calls  []string       // those of them that the function calls, nearly always
	params map[string]int // how many parameters each of them has, if it is a function
	wild   bool           // whether anything may stand anywhere
}

// pick returns one of some strings.
func (w *writer) pick(l ...string) string { return l[w.Intn(len(l))] }

// rarely is true in one of n cases, and in more of them if anything may stand anywhere.
func (w *writer) rarely(n int) bool {
	if w.wild {
		n = (n + 3) / 4
	}
	return w.Intn(n) == 0
}

// number returns a number that means something, as far as possible.
func (w *writer) number() string {
	switch w.Intn(8) {
	case 0:
		return fmt.Sprint(w.Uint32())
	case 1:
		return fmt.Sprint(4 * w.Intn(100))
	case 2, 3:
		if len(w.names) > 0 {
			return w.pick(w.names...)
		}
	}
	return fmt.Sprint(w.Intn(6) - 1)
}

// sizes are how many bytes the instructions with an operand have.
var sizes = map[string]int{"push": 5, "jump": 5, "zero": 5, "get": 2, "set": 2, "unary": 2, "binary": 2, "call": 2}

// code returns the instructions of a function with some variables.
func (w *writer) code(variables int) string {
	var list []string
	depth := 0
	add := func(text string, gives int) {
		list = append(list, text)
		depth += gives
	}
	for range 3 + w.Intn(25) {
		switch k := w.Intn(24); {
		case k < 5:
			add("push "+w.number(), 1)
		case k < 8 && variables > 0 || w.rarely(80):
			add("get "+fmt.Sprint(w.Intn(variables+1+w.Intn(10)/9)/2), 1)
		case k < 9:
			add("in", 1)
		case k == 9 && (depth > 0 && variables > 0 || w.rarely(40)):
			add("set "+fmt.Sprint(w.Intn(variables+1)/2), -1)
		case k == 10 && (depth > 0 || w.rarely(40)):
			add("out", -1)
		case k == 11 && (depth > 0 || w.rarely(40)):
			add("unary "+fmt.Sprint(w.Intn(3+w.Intn(20)/19)), 0)
		case k <= 13 && (depth > 1 || w.rarely(40)):
			add("binary "+fmt.Sprint(w.Intn(18+w.Intn(30)/29)), -1)
		case k == 14 && w.Intn(3) == 0:
			add("jump #", 0)
		case k == 15 && (depth > 0 || w.rarely(40)):
			add("zero #", -1)
		case k <= 17 && (len(w.calls) > 0 || w.rarely(20)):
			name := w.pick(w.names...)
			if len(w.calls) > 0 && !w.rarely(20) {
				name = w.pick(w.calls...)
			}
			n := w.params[name]
			if w.rarely(30) {
				n++
			}
			for range n {
				add("push "+w.number(), 1)
			}
			add("push "+name, 1)
			add(fmt.Sprint("call ", n), -n)
		case k == 18 && (depth > 0 || w.rarely(40)):
			add("drop", -1)
		case k == 19 && (depth > 0 || w.rarely(40)):
			add("return", -1)
		case k == 20:
			from := fmt.Sprint(4 * w.Intn(30))
			if w.rarely(12) {
				from = w.number()
			}
			add("push "+from, 1)
			add("load", 0)
		case k == 21:
			// in front of the program, or, now and then, anywhere in it
			to := fmt.Sprint(4 * w.Intn(16))
			if w.rarely(12) {
				to = w.pick(fmt.Sprint(4*w.Intn(60)), w.number())
			}
			add("push "+to, 1)
			add("push "+w.number(), 1)
			add("store", -2)
		case w.rarely(60):
			add(fmt.Sprint(w.Intn(256)), 0)
		}
	}
	list = append(list, "push "+w.number(), "return")
	return w.aimed(list)
}

// aimed returns instructions whose jumps lead to others of them, nearly always.
func (w *writer) aimed(list []string) string {
	from := []int{0}
	for i, text := range list {
		first, _, _ := strings.Cut(text, " ")
		from = append(from, from[i]+max(1, sizes[first]))
	}
	for i, text := range list {
		to := i + w.Intn(len(list)-i)
		if w.Intn(8) == 0 {
			to = w.Intn(len(list))
		}
		distance := from[to] - from[i+1]
		if w.rarely(15) {
			distance += w.Intn(9) - 4
		}
		list[i] = strings.Replace(text, "#", fmt.Sprint(distance), 1)
	}
	return strings.Join(list, " ")
}

// place returns a random place, given its name.
func (w *writer) place(object, symbol string, isCode bool) string {
	if !isCode {
		text := fmt.Sprint(object, " ", symbol, " data")
		for range w.Intn(4) {
			text += " " + w.number()
		}
		return text
	}
	params := w.params["@"+object+":"+symbol]
	variables := params + w.Intn(4)
	if w.rarely(60) {
		variables = w.Intn(80)
	}
	return fmt.Sprint(object, " ", symbol, " code ", params, " ", variables, " ", w.code(variables))
}

// places returns the places of a binary of which nothing but its own places and those of some libraries are named.
func (w *writer) places(object string, n int, extern []string) []string {
	w.names = append([]string{}, extern...)
	code := make([]bool, n)
	for i := range n {
		name := fmt.Sprintf("@%s:p%d", object, i)
		w.names = append(w.names, name)
		delete(w.params, name)
		if code[i] = i == 0 || w.Intn(3) > 0; code[i] {
			w.params[name] = w.Intn(3)
		}
	}
	var l []string
	for i := range n {
		w.calls = nil
		for k, name := range w.names {
			// those behind it, so that few calls lead back to where they came from
			if _, isCode := w.params[name]; isCode && (k < len(extern) || k > len(extern)+i) {
				w.calls = append(w.calls, name)
			}
		}
		l = append(l, w.place(object, fmt.Sprint("p", i), code[i]))
	}
	return l
}

// program returns a random program and libraries.
func (w *writer) program() (api.Binary, []api.Library) {
	w.params = map[string]int{}
	var libs []api.Library
	var extern []string
	for i := range w.Intn(4) {
		path, object := fmt.Sprint("lib/s", i), fmt.Sprint("s/o", i)
		libs = append(libs, library(path, w.places(object, 1+w.Intn(3), nil)...))
		for _, x := range libs[i].Binary.Exports {
			name := "$" + path + ":" + x.Symbol
			extern = append(extern, name)
			if n, isCode := w.params["@"+object+":"+x.Symbol]; isCode {
				w.params[name] = n
			}
		}
	}
	return program(w.places("a/o", 1+w.Intn(4), extern)...), libs
}
