package emulate

import "licit/api"

// frame is a call that has not ended.
type frame struct {
	variables []uint32
	first     int // how many values belong to the frames before
	next      int // where the next instruction stands
}

// run is a call of a machine, with all calls within it.
type run struct {
	memory memory
	table  []instruction
	frames []frame
	values []uint32 // those of all frames, one behind the other
	input  string   // what is still to be read
	output []byte
	value  uint32 // that of the function, as soon as it has ended
	steps  int
}

// last returns the frame of which instructions are executed. It is good until another one is opened.
func (r *run) last() *frame { return &r.frames[len(r.frames)-1] }

// open calls the function at an address: ErrRange, if there is none; ErrMismatch, if it has not as many parameters as there are arguments; ErrCorrupt, if it has too few variables, or too many; ErrDeep, if there are too many frames.
func (r *run) open(address uint32, args []uint32) api.Errno {
	at := int(address)
	if !r.memory.has(at, headSize) {
		return api.ErrRange
	}
	params, variables := int(r.memory[at]), int(r.memory[at+1])
	switch {
	case params != len(args):
		return api.ErrMismatch
	case variables < params || variables > api.MaxLocals:
		return api.ErrCorrupt
	case len(r.frames) == api.MaxFrames:
		return api.ErrDeep
	}
	f := frame{variables: make([]uint32, variables), first: len(r.values), next: at + headSize}
	copy(f.variables, args)
	r.frames = append(r.frames, f)
	return api.OK
}

// step executes the next instruction: ErrRange, if it is not in the memory; ErrCorrupt, if it is none; ErrState, if its frame has too few values; then its own error.
func (r *run) step() api.Errno {
	f := r.last()
	if !r.memory.has(f.next, 1) {
		return api.ErrRange
	}
	number := int(r.memory[f.next])
	if number >= len(r.table) || r.table[number].execute == nil {
		return api.ErrCorrupt
	}
	i := r.table[number]
	if !r.memory.has(f.next+1, i.size) {
		return api.ErrRange
	}
	operand := r.memory.number(f.next+1, i.size)
	if i.known != nil && !i.known(r, operand) {
		return api.ErrCorrupt
	}
	rest := len(r.values) - i.count(operand)
	if rest < f.first {
		return api.ErrState
	}
	taken := r.values[rest:]
	r.values = r.values[:rest]
	f.next += 1 + i.size
	return i.execute(r, operand, taken)
}

// give puts a value on those of the last frame: ErrFull, if there are too many.
func (r *run) give(value uint32) api.Errno {
	if len(r.values) == api.MaxStack {
		return api.ErrFull
	}
	r.values = append(r.values, value)
	return api.OK
}
