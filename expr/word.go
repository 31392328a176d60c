package expr

// wordSize is the number of bits of a word.
const wordSize = 32

// Unary returns the result of a unary operation, and whether there is such an operation.
func Unary(op string, x uint32) (uint32, bool) {
	switch op {
	case "-":
		return -x, true
	case "~":
		return ^x, true
	case "!":
		return truth(x == 0), true
	}
	return 0, false
}

// Binary returns the result of a binary operation, and whether there is such an operation.
func Binary(op string, x, y uint32) (uint32, bool) {
	a, b := int32(x), int32(y)
	switch op {
	case "||":
		return truth(x != 0 || y != 0), true
	case "&&":
		return truth(x != 0 && y != 0), true
	case "|":
		return x | y, true
	case "^":
		return x ^ y, true
	case "&":
		return x & y, true
	case "==":
		return truth(a == b), true
	case "!=":
		return truth(a != b), true
	case "<":
		return truth(a < b), true
	case "<=":
		return truth(a <= b), true
	case ">":
		return truth(a > b), true
	case ">=":
		return truth(a >= b), true
	case "<<":
		return x << (y % wordSize), true
	case ">>":
		return uint32(a >> (y % wordSize)), true
	case "+":
		return x + y, true
	case "-":
		return x - y, true
	case "*":
		return x * y, true
	case "/":
		return uint32(quotient(a, b)), true
	case "%":
		return uint32(a - quotient(a, b)*b), true
	}
	return 0, false
}

// truth returns the word of a comparison.
func truth(b bool) uint32 {
	if b {
		return 1
	}
	return 0
}

// quotient returns the quotient of two signed numbers, and 0 where there is none; that of the least number and -1 wraps around to the least number.
func quotient(a, b int32) int32 {
	if b == 0 {
		return 0
	}
	return a / b
}
