package emulate

import (
	"fmt"
	"strconv"
	"strings"
	"testing"

	"licit/api"
	"licit/expr"
)

// code returns the place of a program that consists of one function without parameters and with some variables.
func code(variables int, instructions string) string {
	return fmt.Sprint("a/o main code 0 ", variables, " ", instructions)
}

// P13.2: what each instruction does.
func TestInstructions(t *testing.T) {
	for _, x := range []struct {
		instructions string
		value        uint32
		output       string
		steps        int
	}{
		{"push 7 return", 7, "", 2},
		{"push -1 return", 1<<32 - 1, "", 2},
		{"push 67305985 return", 0x04030201, "", 2},
		{"1 1 2 3 4 13", 0x04030201, "", 2},
		{"get 0 return", 0, "", 2},
		{"push 7 set 1 push 8 set 0 get 1 return", 7, "", 6},
		{"push 7 set 1 push 8 set 1 get 1 return", 8, "", 6},
		{"push 64 load return", 2 << 8, "", 3}, // the head of main, with two variables, and ahead of what follows
		{"push 0 load return", 0, "", 3},
		{"push @a/o:d load return", 9, "", 3},
		{"push @a/o:d push 4 binary 13 load return", 10, "", 5},
		{"push @a/o:d push 8 store push @a/o:d load return", 8, "", 6},
		{"push 0 push 8 store push 0 load return", 8, "", 6},
		{"in return", 'l', "", 2},
		{"in drop in return", 'i', "", 4},
		{"push 65 out push 577 out push -1 out push 0 return", 0, "AA\xff", 8},
		{"push 5 unary 0 return", 1<<32 - 5, "", 3},
		{"push 5 unary 1 return", 1<<32 - 6, "", 3},
		{"push 5 unary 2 return", 0, "", 3},
		{"push 7 push 5 binary 14 return", 2, "", 4},
		{"jump 0 push 7 return", 7, "", 3},
		{"jump 1 13 push 7 return", 7, "", 3},
		{"jump 6 push 7 return jump -11", 7, "", 4},
		{"push 0 zero 6 push 1 return push 2 return", 2, "", 4},
		{"push 3 zero 6 push 1 return push 2 return", 1, "", 4},
		{"push 256 zero 6 push 1 return push 2 return", 1, "", 4},
		{"push 9 push 8 drop return", 9, "", 4},
		{"push 9 push 8 return", 8, "", 3},
		// a loop until the end of the input
		{"in set 0 get 0 unary 1 zero 8 get 0 out jump -20 get 0 return", 1<<32 - 1, "licit", 5*8 + 5 + 2},
	} {
		if strings.HasPrefix(x.instructions, "push 64 load") {
			// the word has the first two bytes of the code behind the head
			x.value += 1<<16 | 64<<24
		}
		ends(t, x.value, x.output, x.steps, "licit", code(2, x.instructions), "a/o d data 9 10")
	}
}

// P13.2: the operations by their indices, with the right operand on top.
func TestOperations(t *testing.T) {
	some := []uint32{0, 1, 2, 5, 31, 32, 33, 1<<31 - 1, 1 << 31, 1<<32 - 2, 1<<32 - 1}
	m := loaded(t, program(code(0, "push 0 return"), "a/o unary code 2 2 get 1 8 0 return", "a/o binary code 3 3 get 1 get 2 9 0 return",
		// the index is a byte of the code: it is stored there
		"a/o put code 2 2 get 0 get 1 store push 0 return"))
	put := func(symbol string, at, index uint32) uint32 {
		address, _ := m.Address("a/o", symbol)
		w, _ := m.Word(address + at/4*4)
		w = w&^(255<<(8*(at%4))) | index<<(8*(at%4))
		store, _ := m.Address("a/o", "put")
		if _, e := m.Call(store, "", 5, address+at/4*4, w); e != api.OK {
			t.Fatal(e)
		}
		return address
	}
	for i, op := range strings.Fields("- ~ ! none") {
		address := put("unary", 5, uint32(i))
		for _, x := range some {
			want, known := expr.Unary(op, x)
			if r, e := m.Call(address, "", 3, 77, x); known && (e != api.OK || r != (api.Result{Value: want, Steps: 3})) || !known && e != api.ErrCorrupt {
				t.Error(op, x, r, e)
			}
		}
	}
	for i, op := range strings.Fields("|| && | ^ & == != < <= > >= << >> + - * / % none") {
		address := put("binary", 7, uint32(i))
		for _, x := range some {
			for _, y := range some {
				want, known := expr.Binary(op, x, y)
				if r, e := m.Call(address, "", 4, 77, x, y); known && (e != api.OK || r != (api.Result{Value: want, Steps: 4})) || !known && e != api.ErrCorrupt {
					t.Error(op, x, y, r, e)
				}
			}
		}
	}
}

// P13.2: each error of an instruction, and of two that hold at once the first one.
func TestInstructionErrors(t *testing.T) {
	for _, x := range []struct {
		instructions string
		steps        int // ahead of the error
		e            api.Errno
	}{
		// no instruction
		{"0", 0, api.ErrCorrupt}, {"15", 0, api.ErrCorrupt}, {"16", 0, api.ErrCorrupt}, {"255", 0, api.ErrCorrupt}, {"128", 0, api.ErrCorrupt}, {"push 1 15", 1, api.ErrCorrupt},
		// nowhere in the memory
		{"jump 1000", 1, api.ErrRange}, {"jump 2147483647", 1, api.ErrRange}, {"jump -2147483648", 1, api.ErrRange}, {"jump -72", 1, api.ErrRange}, {"jump -71", 1, api.ErrCorrupt}, {"push 0 zero 1000", 2, api.ErrRange},
		{"push 0 zero -79", 2, api.ErrRange}, {"push 0 zero -78", 2, api.ErrRange}, {"push 0 zero -77", 2, api.ErrRange}, {"push 0 zero -76", 2, api.ErrCorrupt},
		// in the middle of an instruction
		{"jump 1 push 13", 1, api.ErrState}, {"jump 1 push 15", 1, api.ErrCorrupt},
		// no variable and no operation, before too few values
		{"get 2", 0, api.ErrCorrupt}, {"get 255", 0, api.ErrCorrupt}, {"set 2", 0, api.ErrCorrupt}, {"set 1", 0, api.ErrState}, {"push 1 set 2", 1, api.ErrCorrupt},
		{"unary 3", 0, api.ErrCorrupt}, {"unary 2", 0, api.ErrState}, {"push 1 unary 3", 1, api.ErrCorrupt}, {"unary 255", 0, api.ErrCorrupt},
		{"binary 18", 0, api.ErrCorrupt}, {"binary 17", 0, api.ErrState}, {"push 1 binary 17", 1, api.ErrState}, {"push 1 binary 18", 1, api.ErrCorrupt}, {"push 1 push 1 binary 18", 2, api.ErrCorrupt},
		// too few values, before what comes behind that
		{"load", 0, api.ErrState}, {"store", 0, api.ErrState}, {"push 1 store", 1, api.ErrState}, {"push 0 store", 1, api.ErrState}, {"out", 0, api.ErrState}, {"zero 0", 0, api.ErrState}, {"zero 1000", 0, api.ErrState},
		{"call 0", 0, api.ErrState}, {"push 1 call 1", 1, api.ErrState}, {"push @a/o:f call 1", 1, api.ErrState}, {"push @a/o:f call 255", 1, api.ErrState}, {"return", 0, api.ErrState}, {"drop", 0, api.ErrState}, {"push 1 drop drop", 2, api.ErrState},
		// addresses
		{"push 1 load", 1, api.ErrRange}, {"push 2 load", 1, api.ErrRange}, {"push 3 load", 1, api.ErrRange}, {"push 1000 load", 1, api.ErrRange}, {"push -4 load", 1, api.ErrRange}, {"push -1 load", 1, api.ErrRange}, {"push 2147483648 load", 1, api.ErrRange},
		{"push 1 push 0 store", 2, api.ErrRange}, {"push 66 push 0 store", 2, api.ErrRange}, {"push 1000 push 0 store", 2, api.ErrRange}, {"push -4 push 0 store", 2, api.ErrRange}, {"push 0 push 1 store 0", 3, api.ErrCorrupt},
		// calls
		{"push 1000 call 0", 1, api.ErrRange}, {"push -1 call 0", 1, api.ErrRange}, {"push 5 push @a/o:f call 1", 2, api.ErrMismatch}, {"push 0 call 0", 2, api.ErrCorrupt},
		// in another function
		{"push 5 push @a/o:f call 0", 3, api.ErrState},
		{"push 5 push 6 push 7 push @a/o:g call 1", 5, api.ErrCorrupt},
	} {
		fails(t, x.e, x.steps, "licit", code(2, x.instructions), "a/o f code 0 0 drop", "a/o g code 1 1 get 1")
	}
}

// P13.2: values of another frame are not taken, whatever the instruction is.
func TestOwnValues(t *testing.T) {
	main := code(0, "push 1 push 2 push 64 push 64 push @a/o:f call 1 return")
	for _, x := range []struct{ instructions, more string }{
		{"set 0", "push 1 "}, {"load", "push 0 "}, {"store", "push 0 push 0 "}, {"out", "push 0 "}, {"unary 0", "push 0 "}, {"binary 0", "push 0 push 0 "}, {"zero 0", "push 0 "},
		{"call 0", "push @a/o:g "}, {"call 2", "push 0 push 0 push @a/o:h "}, {"return", "push 0 "}, {"drop", "push 0 "},
	} {
		pushed := strings.Count(x.more, "push")
		for n := range pushed {
			f := "a/o f code 1 1 " + strings.Repeat("push @a/o:g ", n) + x.instructions
			fails(t, api.ErrState, 6+n, "", main, f, "a/o g code 0 0 push 0 return", "a/o h code 2 2 push 0 return")
		}
		b := program(main, "a/o f code 1 1 "+x.more+x.instructions+" push 5 return", "a/o g code 0 0 push 0 return", "a/o h code 2 2 push 0 return")
		if _, e := Run(b, nil, "", 100); e != api.OK {
			t.Error(x, e)
		}
	}
	// values that a frame has left when it is closed are gone; those of the frame before are there again
	ends(t, 1, "\x08", 12, "", code(0, "push 1 push 2 push @a/o:f call 0 out drop return"), "a/o f code 0 0 push 5 push 6 push 7 push 8 return", "a/o g code 0 0")
}

// P13.2: an instruction whose other bytes end behind the memory, before what they say, and one whose bytes end with it.
func TestEndOfMemory(t *testing.T) {
	for _, x := range []struct {
		end  string // the last four bytes
		from int    // where the instruction stands in them
		e    api.Errno
	}{
		{"13 13 13 1", 3, api.ErrRange}, {"13 13 13 2", 3, api.ErrRange}, {"13 13 13 3", 3, api.ErrRange}, {"13 13 13 8", 3, api.ErrRange}, {"13 13 13 9", 3, api.ErrRange}, {"13 13 13 10", 3, api.ErrRange}, {"13 13 13 11", 3, api.ErrRange}, {"13 13 13 12", 3, api.ErrRange},
		{"1 0 0 0", 0, api.ErrRange}, {"10 0 0 0", 0, api.ErrRange}, {"11 0 0 0", 0, api.ErrRange}, {"13 10 0 0", 1, api.ErrRange}, {"13 13 11 0", 2, api.ErrRange},
		// those that have their bytes, and those that need none
		{"13 13 2 9", 2, api.ErrCorrupt}, {"13 13 3 9", 2, api.ErrCorrupt}, {"13 13 8 3", 2, api.ErrCorrupt}, {"13 13 9 18", 2, api.ErrCorrupt}, {"13 13 3 0", 2, api.ErrState}, {"13 13 8 2", 2, api.ErrState}, {"13 13 12 0", 2, api.ErrState},
		{"13 13 13 0", 3, api.ErrCorrupt}, {"13 13 13 15", 3, api.ErrCorrupt}, {"13 13 13 255", 3, api.ErrCorrupt}, {"13 13 13 4", 3, api.ErrState}, {"13 13 13 5", 3, api.ErrState}, {"13 13 13 7", 3, api.ErrState}, {"13 13 13 13", 3, api.ErrState}, {"13 13 13 14", 3, api.ErrState},
		// behind them there is nothing
		{"13 13 2 0", 2, api.ErrRange}, {"13 13 13 6", 3, api.ErrRange},
	} {
		b := program("a/o main code 0 1 jump " + strconv.Itoa(1+x.from) + " 13 " + x.end)
		if r, e := Run(b, nil, "", 9); e != x.e || r != (api.Result{}) || len(b.Image)%4 != 0 {
			t.Error(x, r, e)
		}
	}
	// whole instructions
	fails(t, api.ErrRange, 2, "", "a/o main code 0 0 jump 0 push 0")
}

// P13.2: MaxStack values in all frames, and one more.
func TestStack(t *testing.T) {
	fill := func(n int) string { return strings.Repeat("push 64 ", n) }
	full := fill(api.MaxStack)
	f := "a/o f code 0 1 "
	ends(t, 64, "", api.MaxStack+1, "", code(1, full+"return"))
	for _, x := range []string{"push 0", "get 0", "in"} {
		fails(t, api.ErrFull, api.MaxStack, "licit", code(1, full+x))
		fails(t, api.ErrFull, api.MaxStack, "", code(1, full+x))
	}
	// what is there is looked at before the room
	fails(t, api.ErrCorrupt, api.MaxStack, "", code(1, full+"get 1"))
	// instructions that take a value have room for another one
	for _, x := range []struct {
		instruction string
		value       uint32
	}{{"load", 1<<24 | 1<<16 | 1<<8}, {"unary 1", 1<<32 - 65}, {"binary 13", 128}} {
		b := program(code(1, full+x.instruction+" return"))
		w := uint32(b.Image[0]) | uint32(b.Image[1])<<8 | uint32(b.Image[2])<<16 | uint32(b.Image[3])<<24
		if x.instruction == "load" {
			x.value = w
		}
		if r, e := Run(b, nil, "", api.MaxSteps); e != api.OK || r != (api.Result{Value: x.value, Steps: api.MaxStack + 2}) {
			t.Error(x.instruction, r, e)
		}
	}
	// two frames: the values that were taken by the call do not count
	main := code(0, fill(1000)+"push @a/o:f call 2 return")
	two := "a/o f code 2 2 "
	ends(t, 64, "", 1000+2+26+2, "", main, two+fill(26)+"return return")
	fails(t, api.ErrFull, 1000+2+26, "", main, two+fill(26)+"push 0")
	fails(t, api.ErrFull, 1000+2+26, "", main, two+fill(26)+"get 0")
	fails(t, api.ErrFull, 1000+2+26, "", main, two+fill(26)+"in")
	// a full stack, of which the call takes the address alone
	ends(t, 7, "", api.MaxStack-1+2+2+1, "", code(0, fill(api.MaxStack-1)+"push @a/o:f call 0 return"), f+"push 7 return")
	// values of frames that were closed do not count
	ends(t, 5, "", 2*(2+100+1+1)+2, "", code(0, "push @a/o:f call 0 drop push @a/o:f call 0 drop push 5 return"), "a/o f code 0 0 "+fill(100)+"return")
}

// P13.2: outputs of MaxData bytes, which no run of MaxSteps steps has: one more is ErrTooLarge, behind ErrState.
func TestOutput(t *testing.T) {
	for _, x := range []struct {
		size int
		e    api.Errno
	}{{0, api.OK}, {api.MaxData - 1, api.OK}, {api.MaxData, api.ErrTooLarge}} {
		r := &run{memory: memory{0, 0, 7, 7}, table: instructions(), output: make([]byte, x.size)}
		if e := r.open(0, nil); e != api.OK {
			t.Fatal(e)
		}
		if e := r.give(321); e != api.OK {
			t.Fatal(e)
		}
		if e := r.step(); e != x.e || e == api.OK && (len(r.output) != x.size+1 || r.output[x.size] != 'A') || e != api.OK && len(r.output) != x.size {
			t.Error(x, e, len(r.output))
		}
	}
	r := &run{memory: memory{0, 0, 7, 7}, table: instructions(), output: make([]byte, api.MaxData)}
	if e := r.open(0, nil); e != api.OK || r.step() != api.ErrState {
		t.Error(e)
	}
	// the longest output of one function
	n := (api.MaxCode - 8) / 2
	ends(t, 0, strings.Repeat("\xff", n), 2*n+2, "", code(0, strings.Repeat("in out ", n)+"push 0 return"))
}

// P13.2: the input is read from the left, and behind its end again and again.
func TestInput(t *testing.T) {
	in := code(0, "in out in out in out in return")
	for _, x := range []struct {
		input, output string
		value         uint32
	}{
		{"abcd", "abc", 'd'}, {"abcde", "abc", 'd'}, {"\x00\xff\x80\xfe", "\x00\xff\x80", 254}, {"abc", "abc", 1<<32 - 1}, {"ab", "ab\xff", 1<<32 - 1}, {"", "\xff\xff\xff", 1<<32 - 1}, {"ü€", "ü\xe2", 0x82},
	} {
		ends(t, x.value, x.output, 8, x.input, in)
	}
	// functions that are called read on
	ends(t, 'c', "ab", 11, "abc", code(0, "push @a/o:f call 0 out push 7 drop in return"), "a/o f code 0 0 in out in return")
}

// P13.2: stores stay, also behind an error, and whatever was called before is gone otherwise.
func TestStores(t *testing.T) {
	m := loaded(t, program("a/o main code 2 3 in set 2 get 0 get 1 store get 2 drop get 0 load return", "a/o d data 5 6", "a/o bad code 1 1 get 0 push 9 store push 10 get 0 push 8 store out return",
		"a/o loop code 1 1 get 0 push 7 store get 0 push 6 store jump -5"))
	d, _ := m.Address("a/o", "d")
	bad, _ := m.Address("a/o", "bad")
	loop, _ := m.Address("a/o", "loop")
	has := func(address, want uint32) {
		t.Helper()
		if w, e := m.Word(address); e != api.OK || w != want {
			t.Error(address, w, e, want)
		}
	}
	for range 2 {
		if r, e := m.Call(64, "xyz", 99, d, 77); e != api.OK || r != (api.Result{Value: 77, Steps: 10}) {
			t.Error(r, e)
		}
		has(d, 77)
		has(d+4, 6)
		if r, e := m.Call(bad, "", 99, d); e != api.ErrState || r != (api.Result{}) {
			t.Error(r, e)
		}
		has(d, 8)
		if r, e := m.Call(bad, "", 4, d); e != api.ErrLimit || r != (api.Result{}) {
			t.Error(r, e)
		}
		has(d, 9)
		if r, e := m.Call(loop, "", 1000, d); e != api.ErrLimit || r != (api.Result{}) {
			t.Error(r, e)
		}
		has(d, 6)
		// no store without an address
		if r, e := m.Call(loop, "", 1000, d+1); e != api.ErrRange || r != (api.Result{}) {
			t.Error(r, e)
		}
		has(d, 6)
		has(d+4, 6)
	}
	// at the beginning and the end of the memory, and not behind it
	size := uint32(4 * len(words(m)))
	for _, x := range []struct {
		address uint32
		e       api.Errno
	}{{0, api.OK}, {60, api.OK}, {size - 4, api.OK}, {size - 3, api.ErrRange}, {size - 2, api.ErrRange}, {size - 1, api.ErrRange}, {size, api.ErrRange}, {size + 4, api.ErrRange}} {
		if r, e := m.Call(64, "", 99, x.address, 0x01020304); e != x.e || (r.Value == 0x01020304) != (e == api.OK) {
			t.Error(x.address, r, e)
		}
	}
	has(0, 0x01020304)
	has(60, 0x01020304)
	has(size-4, 0x01020304)
}

// P13.2: code is memory: what is stored there is executed, and the head of a function is read when it is called.
func TestCodeIsMemory(t *testing.T) {
	// the bytes of the push in g go on in d, behind the free byte
	ends(t, 0x0900, "", 8, "", "a/o main code 0 0 push @a/o:d push 0x0d000009 store push @a/o:g call 0 return", "a/o g code 0 0 1", "a/o d data 0 0")
	ends(t, 55, "", 9, "", "a/o main code 0 0 push @a/o:d push 0x00020101 store push 55 push @a/o:d call 1 return", "a/o d data 0 13")
	// the return in front of the loop is put there by the loop itself
	ends(t, 3, "", 2+5+1, "", "a/o main code 0 0 push 3 6 14 push 72 push 0x0d0d0d0d store jump -17")
}
