package expr

import "licit/api"

// Fold replaces operations on numbers by their results: the error of Check.
func Fold(f api.Formula) (api.Formula, api.Errno) {
	if e := Check(f); e != api.OK {
		return nil, e
	}
	var folded api.Formula
	// what is folded already ends with the result if it is a number, so that one way from left to right is enough
	for _, op := range f {
		taken, compute := computation(op)
		from := len(folded) - taken
		if compute != nil && areNumbers(folded[from:]) {
			op = api.Op{Kind: api.OpNumber, N: compute(folded[from:])}
			folded = folded[:from]
		}
		folded = append(folded, op)
	}
	return folded, api.OK
}

// computation returns how many numbers an operation can be folded with, and what computes the result from them; nil, if it is never folded.
func computation(op api.Op) (int, func(numbers api.Formula) uint32) {
	switch op.Kind {
	case api.OpUnary:
		return 1, func(numbers api.Formula) uint32 {
			result, _ := Unary(op.Text, numbers[0].N)
			return result
		}
	case api.OpBinary:
		return 2, func(numbers api.Formula) uint32 {
			result, _ := Binary(op.Text, numbers[0].N, numbers[1].N)
			return result
		}
	}
	return 0, nil
}

// areNumbers says whether all operations are numbers.
func areNumbers(ops api.Formula) bool {
	for _, op := range ops {
		if op.Kind != api.OpNumber {
			return false
		}
	}
	return true
}

// Value returns the value of a formula that is a constant, and whether it is one.
func Value(f api.Formula) (uint32, bool) {
	folded, e := Fold(f)
	// a valid formula that has nothing but numbers is one number
	if e != api.OK || !areNumbers(folded) {
		return 0, false
	}
	return folded[0].N, true
}
