package emulate

import (
	"licit/api"
	"licit/expr"
)

// headSize is the number of bytes of a function in front of its first instruction.
const headSize = 2

// behindEnd is what is read behind the end of the input.
const behindEnd = 1<<32 - 1

// unaryOps and binaryOps are the operations in the order of their indices.
var (
	unaryOps  = []string{"-", "~", "!"}
	binaryOps = []string{"||", "&&", "|", "^", "&", "==", "!=", "<", "<=", ">", ">=", "<<", ">>", "+", "-", "*", "/", "%"}
)

// instruction says what a byte of code means.
type instruction struct {
	size    int                                                    // bytes of the operand behind it
	known   func(r *run, operand uint32) bool                      // whether there is what the operand is the index of; nil, if it is no index
	takes   int                                                    // how many values it takes
	list    bool                                                   // whether it takes also as many as the operand says
	execute func(r *run, operand uint32, taken []uint32) api.Errno // what it does with the values taken, which are good until it gives one
}

// instructions returns the instructions by their numbers; what has no number cannot be executed.
func instructions() []instruction {
	return []instruction{
		api.InsPush:   {size: wordSize, execute: (*run).push},
		api.InsGet:    {size: 1, known: (*run).hasVariable, execute: (*run).get},
		api.InsSet:    {size: 1, known: (*run).hasVariable, takes: 1, execute: (*run).set},
		api.InsLoad:   {takes: 1, execute: (*run).load},
		api.InsStore:  {takes: 2, execute: (*run).store},
		api.InsIn:     {execute: (*run).in},
		api.InsOut:    {takes: 1, execute: (*run).out},
		api.InsUnary:  {size: 1, known: (*run).hasUnary, takes: 1, execute: (*run).unary},
		api.InsBinary: {size: 1, known: (*run).hasBinary, takes: 2, execute: (*run).binary},
		api.InsJump:   {size: wordSize, execute: (*run).jump},
		api.InsZero:   {size: wordSize, takes: 1, execute: (*run).zero},
		api.InsCall:   {size: 1, takes: 1, list: true, execute: (*run).call},
		api.InsReturn: {takes: 1, execute: (*run).end},
		api.InsDrop:   {takes: 1, execute: (*run).drop},
	}
}

// count returns how many values an instruction with an operand takes.
func (i instruction) count(operand uint32) int {
	if i.list {
		return i.takes + int(operand)
	}
	return i.takes
}

func (r *run) hasVariable(operand uint32) bool { return int(operand) < len(r.last().variables) }

func (r *run) hasUnary(operand uint32) bool { return int(operand) < len(unaryOps) }

func (r *run) hasBinary(operand uint32) bool { return int(operand) < len(binaryOps) }

func (r *run) push(operand uint32, _ []uint32) api.Errno { return r.give(operand) }

func (r *run) get(operand uint32, _ []uint32) api.Errno {
	return r.give(r.last().variables[operand])
}

func (r *run) set(operand uint32, taken []uint32) api.Errno {
	r.last().variables[operand] = taken[0]
	return api.OK
}

// load gives the word at an address: ErrRange, if there is none.
func (r *run) load(_ uint32, taken []uint32) api.Errno {
	if !r.memory.hasWord(taken[0]) {
		return api.ErrRange
	}
	return r.give(r.memory.word(int(taken[0])))
}

// store stores a value at an address: ErrRange, if there is no word.
func (r *run) store(_ uint32, taken []uint32) api.Errno {
	if !r.memory.hasWord(taken[0]) {
		return api.ErrRange
	}
	r.memory.put(int(taken[0]), taken[1])
	return api.OK
}

// in gives the next byte of the input.
func (r *run) in(_ uint32, _ []uint32) api.Errno {
	if r.input == "" {
		return r.give(behindEnd)
	}
	next := r.input[0]
	r.input = r.input[1:]
	return r.give(uint32(next))
}

// out adds a byte to the output: ErrTooLarge, if there is no room for it.
func (r *run) out(_ uint32, taken []uint32) api.Errno {
	if len(r.output) == api.MaxData {
		return api.ErrTooLarge
	}
	r.output = append(r.output, byte(taken[0]))
	return api.OK
}

func (r *run) unary(operand uint32, taken []uint32) api.Errno {
	value, _ := expr.Unary(unaryOps[operand], taken[0])
	return r.give(value)
}

func (r *run) binary(operand uint32, taken []uint32) api.Errno {
	value, _ := expr.Binary(binaryOps[operand], taken[0], taken[1])
	return r.give(value)
}

// jump goes to another instruction. Whether there is one is found out when it is executed.
func (r *run) jump(operand uint32, _ []uint32) api.Errno {
	r.last().next += int(int32(operand))
	return api.OK
}

func (r *run) zero(operand uint32, taken []uint32) api.Errno {
	if taken[0] != 0 {
		return api.OK
	}
	return r.jump(operand, nil)
}

// call calls the function at an address, the last value taken, with the others as arguments.
func (r *run) call(operand uint32, taken []uint32) api.Errno {
	return r.open(taken[operand], taken[:operand])
}

// end closes the last frame, whatever values it has, and gives its value to the one before.
func (r *run) end(_ uint32, taken []uint32) api.Errno {
	value := taken[0]
	r.values = r.values[:r.last().first]
	r.frames = r.frames[:len(r.frames)-1]
	if len(r.frames) == 0 {
		r.value = value
		return api.OK
	}
	// there is room: the call took at least the address of the function
	return r.give(value)
}

func (r *run) drop(_ uint32, _ []uint32) api.Errno { return api.OK }
