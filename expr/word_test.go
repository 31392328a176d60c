package expr

import (
	"math/big"
	"math/rand"
	"slices"
	"strings"
	"testing"

	"licit/api"
)

// least is the least signed number.
const least = 1 << 31

// minus returns the word of a negative number.
func minus(n uint32) uint32 { return -n }

// P8.3: results of unary operations.
func TestUnary(t *testing.T) {
	for _, x := range []struct {
		op   string
		x, n uint32
	}{
		{"-", 0, 0}, {"-", 1, 4294967295}, {"-", 4294967295, 1}, {"-", least, least}, {"-", least - 1, least + 1},
		{"~", 0, 4294967295}, {"~", 4294967295, 0}, {"~", 1, 4294967294}, {"~", least, least - 1},
		{"!", 0, 1}, {"!", 1, 0}, {"!", 2, 0}, {"!", least, 0}, {"!", 4294967295, 0},
	} {
		if n, is := Unary(x.op, x.x); n != x.n || !is {
			t.Error(x, n, is)
		}
	}
}

// P8.3: results of binary operations.
func TestBinary(t *testing.T) {
	for _, x := range []struct {
		op      string
		x, y, n uint32
	}{
		{"+", 1, 2, 3}, {"+", 4294967295, 1, 0}, {"+", least, least, 0}, {"-", 1, 2, 4294967295}, {"-", 0, least, least}, {"*", 3, 5, 15}, {"*", 65536, 65536, 0}, {"*", minus(1), minus(1), 1}, {"*", least, minus(1), least}, {"*", 65537, 65537, 131073},
		// by zero
		{"/", 0, 0, 0}, {"/", 1, 0, 0}, {"/", minus(7), 0, 0}, {"/", least, 0, 0}, {"%", 0, 0, 0}, {"%", 1, 0, 1}, {"%", minus(7), 0, minus(7)}, {"%", least, 0, least},
		// the least signed number
		{"/", least, minus(1), least}, {"%", least, minus(1), 0}, {"/", least, 1, least}, {"%", least, 1, 0}, {"/", least, 2, minus(1 << 30)}, {"/", least, least, 1}, {"/", 1, least, 0}, {"%", 1, least, 1}, {"/", least + 1, minus(1), least - 1}, {"/", least - 1, minus(1), least + 1}, {"%", least, 3, minus(2)},
		// negative numbers
		{"/", 7, 2, 3}, {"/", minus(7), 2, minus(3)}, {"/", 7, minus(2), minus(3)}, {"/", minus(7), minus(2), 3}, {"%", 7, 2, 1}, {"%", minus(7), 2, minus(1)}, {"%", 7, minus(2), 1}, {"%", minus(7), minus(2), minus(1)}, {"/", minus(1), 2, 0}, {"%", minus(1), 2, minus(1)}, {"/", 4294967295, 4294967294, 0}, {"/", 4294967294, 4294967295, 2},
		{"&", 12, 10, 8}, {"|", 12, 10, 14}, {"^", 12, 10, 6}, {"&", minus(1), least, least}, {"^", minus(1), 1, minus(2)},
		// shifts
		{"<<", 1, 0, 1}, {"<<", 1, 31, least}, {"<<", 1, 32, 1}, {"<<", 1, 33, 2}, {"<<", 3, 31, least}, {"<<", 5, 63, least}, {"<<", 5, 64, 5}, {"<<", 1, minus(1), least}, {"<<", least, 1, 0},
		{">>", 8, 0, 8}, {">>", 8, 2, 2}, {">>", least, 31, minus(1)}, {">>", least, 32, least}, {">>", least, 33, least + least>>1}, {">>", least - 1, 31, 0}, {">>", least - 1, 30, 1}, {">>", minus(1), 31, minus(1)}, {">>", minus(2), 1, minus(1)}, {">>", 1, 33, 0}, {">>", minus(8), 2, minus(2)}, {">>", 4, minus(31), 2},
		// comparisons of signed numbers
		{"==", 1, 1, 1}, {"==", 1, 2, 0}, {"==", least, least, 1}, {"!=", 1, 1, 0}, {"!=", 1, 4294967295, 1},
		{"<", least, least - 1, 1}, {"<", least - 1, least, 0}, {"<", least, least, 0}, {"<", least, least + 1, 1}, {"<", minus(1), 0, 1}, {"<", 0, minus(1), 0}, {"<", 1, 2, 1},
		{"<=", least, least - 1, 1}, {"<=", least - 1, least, 0}, {"<=", least, least, 1}, {"<=", least + 1, least, 0}, {"<=", minus(1), 0, 1}, {"<=", 0, 0, 1},
		{">", least, least - 1, 0}, {">", least - 1, least, 1}, {">", least, least, 0}, {">", least + 1, least, 1}, {">", 0, minus(1), 1}, {">", minus(1), 0, 0},
		{">=", least, least - 1, 0}, {">=", least - 1, least, 1}, {">=", least, least, 1}, {">=", least, least + 1, 0}, {">=", 0, minus(1), 1}, {">=", 0, 0, 1},
		{"&&", 0, 0, 0}, {"&&", 0, 2, 0}, {"&&", 2, 0, 0}, {"&&", 2, 1, 1}, {"&&", least, 4, 1}, {"||", 0, 0, 0}, {"||", 0, 2, 1}, {"||", 2, 0, 1}, {"||", least, 4, 1},
	} {
		if n, is := Binary(x.op, x.x, x.y); n != x.n || !is {
			t.Error(x, n, is)
		}
	}
}

// P8.3: what is not an operation.
func TestNoOperations(t *testing.T) {
	for _, op := range []string{"", " ", "+", "*", "/", "=", "==", "&&", "(", "a", "--", "- ", " -", "-a", "~~", "!!", "not"} {
		if n, is := Unary(op, 5); n != 0 || is {
			t.Error(op, n, is)
		}
	}
	for _, op := range []string{"", " ", "~", "!", "=", "===", "&&&", "(", ")", ",", "a", "+ ", " +", "++", "<>", "**", ">>>", "=<", "=>", "and"} {
		if n, is := Binary(op, 5, 7); n != 0 || is {
			t.Error(op, n, is)
		}
	}
}

// words returns words at the edges of what operations tell apart, and some others.
func words() []uint32 {
	all := []uint32{0x55555555, 0xaaaaaaaa, 0x12345678, 0x87654321}
	for _, edge := range []uint32{0, 32, 64, 1 << 16, 1 << 30, least, minus(1 << 30), minus(32)} {
		for d := range uint32(7) {
			all = append(all, edge+d-3)
		}
	}
	r := rand.New(rand.NewSource(1))
	for range 20 {
		all = append(all, r.Uint32())
	}
	return all
}

// wordOf returns the word of a number, modulo 2^32.
func wordOf(n *big.Int) uint32 {
	return uint32(new(big.Int).Mod(n, big.NewInt(1<<32)).Uint64())
}

// signed returns the signed number of a word.
func signed(x uint32) *big.Int {
	if x >= 1<<31 {
		return big.NewInt(int64(x) - 1<<32)
	}
	return big.NewInt(int64(x))
}

// bits returns the word whose bits a function says from those of two words.
func bits(x, y uint32, bit func(a, b bool) bool) uint32 {
	n := uint32(0)
	for i := range 32 {
		if bit(x>>i%2 == 1, y>>i%2 == 1) {
			n += 1 << i
		}
	}
	return n
}

// model returns the result of a binary operation by the words of the definition.
func model(op string, x, y uint32) uint32 {
	a, b, result := signed(x), signed(y), new(big.Int)
	power := big.NewInt(1 << (y % 32))
	switch op {
	case "+":
		result.Add(a, b)
	case "-":
		result.Sub(a, b)
	case "*":
		result.Mul(a, b)
	case "/":
		if y != 0 {
			result.Quo(a, b)
		}
	case "%":
		if result.Set(a); y != 0 {
			result.Rem(a, b)
		}
	case "<<":
		result.Mul(a, power)
	case ">>":
		// fills with the highest bit, and so rounds downwards
		result.Div(a, power)
	case "&":
		return bits(x, y, func(a, b bool) bool { return a && b })
	case "|":
		return bits(x, y, func(a, b bool) bool { return a || b })
	case "^":
		return bits(x, y, func(a, b bool) bool { return a != b })
	default:
		isTrue := map[string]bool{"==": a.Cmp(b) == 0, "!=": a.Cmp(b) != 0, "<": a.Cmp(b) < 0, "<=": a.Cmp(b) <= 0, ">": a.Cmp(b) > 0, ">=": a.Cmp(b) >= 0, "&&": a.Sign() != 0 && b.Sign() != 0, "||": a.Sign() != 0 || b.Sign() != 0}[op]
		if isTrue {
			return 1
		}
	}
	return wordOf(result)
}

// P8.3 and P8.4: operations on words at the edges are those of the definition, and the laws hold.
func TestWordsByDefinition(t *testing.T) {
	for _, x := range words() {
		negative, _ := Unary("-", x)
		inverted, _ := Unary("~", x)
		next, _ := Binary("+", inverted, 1)
		not, _ := Unary("!", x)
		if negative != wordOf(new(big.Int).Neg(signed(x))) || inverted != bits(x, x, func(a, _ bool) bool { return !a }) || not != model("==", x, 0) || negative != next {
			t.Error(x, negative, inverted, not)
		}
		for _, y := range words() {
			for _, op := range slices.Concat(binaryOps...) {
				if n, is := Binary(op, x, y); !is || n != model(op, x, y) {
					t.Error(op, x, y, n, is)
				}
			}
			quotient, _ := Binary("/", x, y)
			remainder, _ := Binary("%", x, y)
			product, _ := Binary("*", quotient, y)
			if sum, _ := Binary("+", product, remainder); sum != x {
				t.Error(x, y, quotient, remainder)
			}
		}
	}
}

// P8.1 and P8.3: the operations of Unary and Binary are those of formulas.
func TestOneSetOfOperations(t *testing.T) {
	const characters = "|&=!<>+-*/%~^(), a1"
	for _, c := range strings.Split(characters, "") {
		for _, d := range append(strings.Split(characters, ""), "") {
			op := c + d
			number := api.Op{Kind: api.OpNumber, N: 1}
			_, unary := Unary(op, 1)
			if unary != slices.Contains(unaryOps, op) || unary != (Check(api.Formula{number, {Kind: api.OpUnary, Text: op}}) == api.OK) {
				t.Error(op, unary)
			}
			_, binary := Binary(op, 1, 1)
			if binary != slices.Contains(slices.Concat(binaryOps...), op) || binary != (Check(api.Formula{number, number, {Kind: api.OpBinary, Text: op}}) == api.OK) {
				t.Error(op, binary)
			}
		}
	}
}
