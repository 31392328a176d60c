package emulate

import (
	"slices"
	"strconv"
	"strings"
	"testing"

	"licit/api"
)

// P13.2: the examples of the chapter.
func TestExamples(t *testing.T) {
	m := loaded(t, program("a/o main code 1 1 2 0 2 0 9 13 13"))
	for _, x := range []uint32{0, 1, 21, 1 << 31, 1<<32 - 1} {
		if r, e := m.Call(64, "", 4, x); e != api.OK || r != (api.Result{Value: 2 * x, Steps: 4}) {
			t.Error(x, r, e)
		}
	}
	ends(t, 5, "A", 4, "AB", "a/o main code 0 0 6 7 1 5 0 0 0 13")
	expect(t, api.Result{}, api.ErrLimit, "AB", 3, "a/o main code 0 0 6 7 1 5 0 0 0 13")
}

// P13.2: limits, inputs and arguments that are too many, or not.
func TestCallArguments(t *testing.T) {
	m := loaded(t, program("a/o main code 0 0 in drop jump -7", "a/o sum code 8 8 get 0 get 7 binary 14 return", "a/o nine code 9 9 get 8 return", "a/o once code 0 0 in return"))
	sum, _ := m.Address("a/o", "sum")
	nine, _ := m.Address("a/o", "nine")
	once, _ := m.Address("a/o", "once")
	long := strings.Repeat("x", api.MaxData)
	eight := []uint32{10, 1, 2, 3, 4, 5, 6, 7}
	for _, x := range []struct {
		address uint32
		input   string
		limit   int
		args    []uint32
		value   uint32
		steps   int
		e       api.Errno
	}{
		{64, "", 0, nil, 0, 0, api.ErrArg},
		{64, "", -1, nil, 0, 0, api.ErrArg},
		{64, "", 1, nil, 0, 0, api.ErrLimit},
		{64, "", api.MaxSteps, nil, 0, 0, api.ErrLimit},
		{64, "", api.MaxSteps + 1, nil, 0, 0, api.ErrArg},
		{64, long, api.MaxSteps, nil, 0, 0, api.ErrLimit},
		{once, long, 2, nil, 'x', 2, api.OK},
		{once, long + "x", 2, nil, 0, 0, api.ErrArg},
		{once, long[1:], api.MaxSteps, nil, 'x', 2, api.OK},
		{once, "", api.MaxSteps + 1, nil, 0, 0, api.ErrArg},
		{once, "", 1, nil, 0, 0, api.ErrLimit},
		{once, "", 2, nil, 1<<32 - 1, 2, api.OK},
		{sum, "", 4, eight, 3, 4, api.OK},
		{sum, "", 4, eight[1:], 0, 0, api.ErrMismatch},
		{sum, "", 4, nil, 0, 0, api.ErrMismatch},
		{nine, "", 4, append(slices.Clone(eight), 8), 0, 0, api.ErrArg},
		{nine, "", 4, eight, 0, 0, api.ErrMismatch},
		// ErrArg comes before the errors of calling
		{1 << 31, "", 0, nil, 0, 0, api.ErrArg},
		{1 << 31, long + "x", 1, nil, 0, 0, api.ErrArg},
		{1 << 31, "", 1, make([]uint32, 9), 0, 0, api.ErrArg},
		{1 << 31, "", 1, nil, 0, 0, api.ErrRange},
	} {
		r, e := m.Call(x.address, x.input, x.limit, x.args...)
		if e != x.e || r != (api.Result{Value: x.value, Steps: x.steps}) {
			t.Error(x.address, len(x.input), x.limit, x.args, r, e)
		}
	}
	b := program("a/o main code 0 0 push 7 return")
	for _, x := range []struct {
		input string
		limit int
		e     api.Errno
	}{{"", 2, api.OK}, {"", 1, api.ErrLimit}, {"", 0, api.ErrArg}, {"", -1 << 63, api.ErrArg}, {"", api.MaxSteps, api.OK}, {"", api.MaxSteps + 1, api.ErrArg}, {long, 2, api.OK}, {long + "x", 2, api.ErrArg}} {
		if r, e := Run(b, nil, x.input, x.limit); e != x.e || (r == api.Result{Value: 7, Steps: 2}) != (e == api.OK) {
			t.Error(len(x.input), x.limit, r, e)
		}
	}
}

// P13.2: exactly MaxSteps steps, and one more.
func TestMaxSteps(t *testing.T) {
	// 6 steps, 7 in each turn of the loop, and those that are left
	lasting := func(steps int) api.Binary {
		turns, rest := (steps-6)/7, (steps-6)%7
		return program("a/o main code 0 1 push " + strconv.Itoa(turns) + " set 0" +
			" get 0 zero 16 get 0 push 1 binary 14 set 0 jump -23 " + strings.Repeat("push 0 ", rest) + "get 0 return")
	}
	if r, e := Run(lasting(api.MaxSteps), nil, "", api.MaxSteps); e != api.OK || r != (api.Result{Steps: api.MaxSteps}) {
		t.Error(r, e)
	}
	if r, e := Run(lasting(api.MaxSteps), nil, "", api.MaxSteps-1); e != api.ErrLimit || r != (api.Result{}) {
		t.Error(r, e)
	}
	if r, e := Run(lasting(api.MaxSteps+1), nil, "", api.MaxSteps); e != api.ErrLimit || r != (api.Result{}) {
		t.Error(r, e)
	}
}

// P13.2: Run calls the entry without arguments.
func TestRunEntry(t *testing.T) {
	for _, x := range []struct {
		code string
		e    api.Errno
	}{{"0 0 push 0 return", api.OK}, {"1 1 push 0 return", api.ErrMismatch}, {"0 65 push 0 return", api.ErrCorrupt}, {"1 65 push 0 return", api.ErrMismatch}, {"0 0", api.ErrCorrupt}, {"0 0 13", api.ErrState}} {
		if r, e := Run(program("a/o main code "+x.code), nil, "", 2); e != x.e || (r == api.Result{Steps: 2}) != (e == api.OK) {
			t.Error(x.code, r, e)
		}
	}
}

// P13.2: the errors of calling, from outside and from an instruction, and the order of two that hold at once.
func TestCalling(t *testing.T) {
	b := program("a/o main code 1 1 get 0 call 0 return", "a/o none code 0 0 push 1 return", "a/o two code 2 2 push 2 return",
		"a/o most code 3 64 get 63 return", "a/o many code 3 65 get 63 return", "a/o same code 3 3 get 2 return", "a/o less code 3 2 get 1 return", "a/o last data 0")
	m := loaded(t, b)
	address := func(symbol string) uint32 {
		at, found := m.Address("a/o", symbol)
		if !found {
			t.Error(symbol)
		}
		return at
	}
	end := uint32(4 * len(words(m)))
	for _, x := range []struct {
		address uint32
		args    []uint32
		value   uint32
		e       api.Errno
	}{
		{address("none"), nil, 1, api.OK},
		{address("none"), []uint32{1}, 0, api.ErrMismatch},
		{address("two"), nil, 0, api.ErrMismatch},
		{address("two"), []uint32{1}, 0, api.ErrMismatch},
		{address("two"), []uint32{1, 2}, 2, api.OK},
		{address("two"), []uint32{1, 2, 3}, 0, api.ErrMismatch},
		// fewer variables than parameters, as many, MaxLocals and one more; ErrMismatch comes first
		{address("less"), []uint32{1, 2, 3}, 0, api.ErrCorrupt},
		{address("less"), []uint32{1, 2}, 0, api.ErrMismatch},
		{address("same"), []uint32{1, 2, 3}, 3, api.OK},
		{address("most"), []uint32{1, 2, 3}, 0, api.OK},
		{address("many"), []uint32{1, 2, 3}, 0, api.ErrCorrupt},
		{address("many"), nil, 0, api.ErrMismatch},
		// a function at the last two addresses: the error of its first instruction, if it can be called
		{end - 2, nil, 0, api.ErrRange},
		{end - 2, []uint32{1}, 0, api.ErrMismatch},
		{end - 1, nil, 0, api.ErrRange},
		{end - 1, []uint32{1}, 0, api.ErrRange},
		{end, []uint32{1}, 0, api.ErrRange},
		{end + 1, []uint32{1}, 0, api.ErrRange},
		{1<<32 - 1, []uint32{1}, 0, api.ErrRange},
		{1<<32 - 2, []uint32{1}, 0, api.ErrRange},
		{1 << 31, []uint32{1}, 0, api.ErrRange},
		// functions are not only where places begin: zeros in front, and bytes that are also instructions
		{0, nil, 0, api.ErrCorrupt},
		{0, []uint32{1}, 0, api.ErrMismatch},
		{63, nil, 12<<16 | 2, api.OK},
		{63, []uint32{1}, 0, api.ErrMismatch},
	} {
		if r, e := m.Call(x.address, "", 9, x.args...); e != x.e || r.Value != x.value || e != api.OK && r != (api.Result{}) {
			t.Error(x.address, x.args, r, e)
		}
		if len(x.args) > 0 {
			continue
		}
		// the same from an instruction
		if r, e := m.Call(64, "", 9, x.address); e != x.e || r.Value != x.value || e != api.OK && r != (api.Result{}) {
			t.Error(x.address, r, e)
		}
	}
	// the function at the last two addresses is called within a step, and its first instruction is not in the memory within the next one
	for _, x := range []struct {
		address uint32
		limit   int
		e       api.Errno
	}{{end - 2, 1, api.ErrLimit}, {end - 2, 2, api.ErrLimit}, {end - 2, 3, api.ErrRange}, {end - 1, 1, api.ErrLimit}, {end - 1, 2, api.ErrRange}} {
		if _, e := m.Call(64, "", x.limit, x.address); e != x.e {
			t.Error(x, e)
		}
	}
}

// P13.2: MaxFrames frames, and one more; ErrDeep is the last of the errors of calling.
func TestFrames(t *testing.T) {
	m := loaded(t, program("a/o main code 2 2 get 0 zero 19 get 0 push 1 binary 14 get 1 push @a/o:main call 2 return get 1 call 0 return", "a/o seven code 0 0 push 7 return", "a/o one code 1 1 push 7 return", "a/o many code 0 65"))
	for _, x := range []struct {
		symbol string
		depth  uint32
		value  uint32
		e      api.Errno
	}{
		{"seven", 0, 7, api.OK},
		{"seven", 62, 7, api.OK}, // 63 frames of main, and the last one
		{"seven", 63, 0, api.ErrDeep},
		{"seven", 64, 0, api.ErrDeep},
		{"one", 63, 0, api.ErrMismatch},
		{"many", 63, 0, api.ErrCorrupt},
		{"many", 64, 0, api.ErrDeep},
	} {
		at, _ := m.Address("a/o", x.symbol)
		if r, e := m.Call(64, "", api.MaxSteps, x.depth, at); e != x.e || r.Value != x.value {
			t.Error(x.symbol, x.depth, r, e)
		}
	}
	if _, e := m.Call(64, "", api.MaxSteps, 63, 1<<31); e != api.ErrRange {
		t.Error(e)
	}
	// frames that were closed do not count
	ends(t, 0, "", 2+100*12+4, "", "a/o main code 0 1 push 100 set 0 get 0 zero 24 push @a/o:zero call 0 drop get 0 push 1 binary 14 set 0 jump -31 get 0 return", "a/o zero code 0 0 push 0 return")
}

// P13.2: the arguments, also of more than MaxParams in a call from an instruction, are the first variables, the others are 0; they are those of one frame.
func TestVariables(t *testing.T) {
	args := []uint32{1, 2, 3}
	m := loaded(t, program("a/o main code 3 5 get 0 out get 1 out get 2 out get 3 out get 4 out push 9 set 0 push 8 set 4 get 0 out get 4 out get 1 return"))
	for range 2 {
		if r, e := m.Call(64, "", 99, args...); e != api.OK || r != (api.Result{Value: 2, Output: "\x01\x02\x03\x00\x00\x09\x08", Steps: 20}) || !slices.Equal(args, []uint32{1, 2, 3}) {
			t.Error(r, e, args)
		}
	}
	ends(t, 7, "\x05\x06\x00", 17, "", "a/o main code 0 1 push 7 set 0 push 5 push 6 push @a/o:f call 2 drop get 0 return",
		"a/o f code 2 3 get 0 out get 1 out get 2 out push 1 return")
	ten := "push 10 push 11 push 12 push 13 push 14 push 15 push 16 push 17 push 18 push 19 push @a/o:f call 10 return"
	ends(t, 19, "\x0a", 17, "", "a/o main code 0 0 "+ten, "a/o f code 10 64 get 0 out get 9 return")
	fails(t, api.ErrMismatch, 11, "", "a/o main code 0 0 "+ten, "a/o f code 9 64 get 0 out get 9 return")
	fails(t, api.ErrCorrupt, 11, "", "a/o main code 0 0 "+ten, "a/o f code 10 9 get 0 out get 9 return")
	// as many as an instruction can have
	all := "a/o main code 0 0 " + strings.Repeat("push 1 ", 255) + "push @a/o:f call 255"
	fails(t, api.ErrMismatch, 256, "", all, "a/o f code 254 255")
	fails(t, api.ErrCorrupt, 256, "", all, "a/o f code 255 255")
	fails(t, api.ErrState, 255, "", strings.Replace(all, "push 1 ", "", 1), "a/o f code 255 255")
}
