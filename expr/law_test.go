package expr

import (
	"fmt"
	"math/rand"
	"slices"
	"testing"

	"licit/api"
	"licit/token"
)

// readings returns the formulas of some tokens as an expression of a level, by the words of the definition.
func readings(l []api.Token, level int) []api.Formula {
	if level == unaryLevel {
		return highest(l)
	}
	all := readings(l, level+1)
	for i, x := range l {
		if slices.Contains(binaryOps[level-1], x.Text) {
			op := api.Formula{{Kind: api.OpBinary, Text: x.Text}}
			all = append(all, joined(readings(l[:i], level), readings(l[i+1:], level+1), op)...)
		}
	}
	return all
}

// joined returns a formula of one list and one of another one, with operations behind it, for each pair of them.
func joined(first, second []api.Formula, ops api.Formula) []api.Formula {
	var all []api.Formula
	for _, f := range first {
		for _, g := range second {
			all = append(all, slices.Concat(f, g, ops))
		}
	}
	return all
}

// highest returns the formulas of some tokens as an expression of the highest level.
func highest(l []api.Token) []api.Formula {
	if len(l) == 0 {
		return nil
	}
	none := []api.Formula{{}}
	first, rest := l[0], l[1:]
	inside, closed := []api.Token{}, len(rest) >= 2 && rest[0].Text == "(" && rest[len(rest)-1].Text == ")"
	if closed {
		inside = rest[1 : len(rest)-1]
	}
	var all []api.Formula
	switch {
	case slices.Contains(unaryOps, first.Text):
		all = joined(highest(rest), none, api.Formula{{Kind: api.OpUnary, Text: first.Text}})
	case first.Text == "(" && len(rest) > 0 && rest[len(rest)-1].Text == ")":
		all = readings(rest[:len(rest)-1], 1)
	case first.Kind == api.TokenNumber && len(rest) == 0:
		n, _ := token.Number(first.Text)
		all = []api.Formula{{{Kind: api.OpNumber, N: n}}}
	case first.Text == "load" && closed:
		all = joined(readings(inside, 1), none, api.Formula{{Kind: api.OpLoad}})
	case first.Text == "in" && closed && len(inside) == 0:
		all = []api.Formula{{{Kind: api.OpIn}}}
	case token.Name(first.Text) && len(rest) == 0:
		all = []api.Formula{{{Kind: api.OpName, Text: first.Text}}}
	case token.Name(first.Text) && closed:
		for n := range uint32(api.MaxParams + 1) {
			all = append(all, joined(arguments(inside, int(n)), none, api.Formula{{Kind: api.OpCall, Text: first.Text, N: n}})...)
		}
	}
	return all
}

// arguments returns the formulas of some tokens as n arguments.
func arguments(l []api.Token, n int) []api.Formula {
	if n == 0 && len(l) == 0 {
		return []api.Formula{{}}
	}
	if n == 1 {
		return readings(l, 1)
	}
	var all []api.Formula
	for i, x := range l {
		if x.Text == "," && n > 1 {
			all = append(all, joined(readings(l[:i], 1), arguments(l[i+1:], n-1), nil)...)
		}
	}
	return all
}

// eachList passes all lists of up to n of some tokens to a function, which must not keep them.
func eachList(parts []api.Token, n int, use func(l []api.Token)) {
	var extend func(l []api.Token)
	extend = func(l []api.Token) {
		use(l)
		if len(l) < n {
			for _, x := range parts {
				extend(append(l, x))
			}
		}
	}
	extend(make([]api.Token, 0, n))
}

// random returns a random formula with about n operations.
func random(r *rand.Rand, n int) api.Formula {
	op := api.Op{Kind: api.OpNumber, N: uint32(r.Intn(4))}
	if n <= 1 {
		switch r.Intn(6) {
		case 0:
			op.N = r.Uint32()
		case 1:
			op = api.Op{Kind: api.OpName, Text: string('a' + rune(r.Intn(3)))}
		case 2:
			op = []api.Op{{Kind: api.OpIn}, {Kind: api.OpCall, Text: "f"}}[r.Intn(2)]
		}
		return api.Formula{op}
	}
	switch k := r.Intn(10); k {
	case 0:
		op = api.Op{Kind: api.OpLoad}
	case 1:
		count := r.Intn(4)
		var f api.Formula
		for range count {
			f = append(f, random(r, (n-1)/count)...)
		}
		return append(f, api.Op{Kind: api.OpCall, Text: "g", N: uint32(count)})
	case 2, 3:
		op = api.Op{Kind: api.OpUnary, Text: unaryOps[r.Intn(3)]}
	default:
		row := binaryOps[r.Intn(len(binaryOps))]
		left := r.Intn(n - 1)
		return slices.Concat(random(r, left), random(r, n-1-left), api.Formula{{Kind: api.OpBinary, Text: row[r.Intn(len(row))]}})
	}
	return append(random(r, n-1), op)
}

// P8.1: short lists of tokens have the formula of the one expression that they are, and otherwise ErrSyntax.
func TestParseByDefinition(t *testing.T) {
	for _, x := range []struct {
		line string
		n    int
	}{{"a 1 - * ( ) , in load =", 5}, {"a - ( ) ,", 7}, {"a 1 + - / ! ( )", 6}, {"a || && ^ ~", 6}} {
		found := 0
		eachList(tokens(x.line), x.n, func(l []api.Token) {
			f, e := Parse(l)
			want := readings(l, 1)
			switch {
			case len(want) > 1:
				t.Fatal(l, want)
			case len(want) == 1 && (e != api.OK || !slices.Equal(f, want[0])):
				t.Fatal(l, e, f, want)
			case len(want) == 0 && (e != api.ErrSyntax || len(f) != 0):
				t.Fatal(l, e, f)
			}
			found += len(want)
		})
		if found == 0 {
			t.Error(x.line)
		}
	}
}

// P8.1: of all short lists of tokens with one formula the shortest one is printed.
func TestFewestParentheses(t *testing.T) {
	for _, x := range []struct {
		line string
		n    int
	}{{"a - * ( )", 8}, {"a + - ( )", 8}, {"a f ( ) , <<", 7}, {"a || && ! ( )", 7}} {
		shortest := map[string]int{}
		eachList(tokens(x.line), x.n, func(l []api.Token) {
			f, e := Parse(l)
			if e != api.OK {
				return
			}
			key := fmt.Sprint(f)
			if n, found := shortest[key]; !found || len(l) < n {
				shortest[key] = len(l)
			}
			printed, e := Print(f)
			// lists come before those that go on behind them, so the shortest one may be still to come
			if e != api.OK || len(printed) > shortest[key] {
				t.Fatal(l, e, printed)
			}
			shortest[key] = len(printed)
			if g, e := Parse(printed); e != api.OK || !slices.Equal(f, g) {
				t.Fatal(l, printed, e, g)
			}
		})
		if len(shortest) < 100 {
			t.Error(x.line, len(shortest))
		}
	}
}

// P8.4: parsing the tokens of a formula gives the formula, unless it is too deep; without any one pair of its parentheses they are no expression, or one with another formula.
func TestPrintAndParse(t *testing.T) {
	r := rand.New(rand.NewSource(2))
	for range 20000 {
		f := random(r, 1+r.Intn(40))
		l, e := Print(f)
		if e != api.OK {
			t.Fatal(f, e)
		}
		if g, e := Parse(l); e == api.ErrDeep || e == api.OK && slices.Equal(f, g) {
			continue
		}
		t.Fatal(f, l)
	}
	for range 2000 {
		f := random(r, 1+r.Intn(15))
		l, _ := Print(f)
		eachPair(l, func(from, to int) {
			less := slices.Concat(l[:from], l[from+1:to], l[to+1:])
			if g, e := Parse(less); e == api.OK && slices.Equal(f, g) {
				t.Fatal(f, l, less)
			}
		})
	}
}

// eachPair passes the places of each pair of parentheses to a function.
func eachPair(l []api.Token, use func(from, to int)) {
	var open []int
	for i, x := range l {
		switch x.Text {
		case "(":
			open = append(open, i)
		case ")":
			last := len(open) - 1
			use(open[last], i)
			open = open[:last]
		}
	}
}

// P8.1: parentheses around an expression do not change its formula.
func TestMoreParentheses(t *testing.T) {
	r := rand.New(rand.NewSource(3))
	for range 2000 {
		f, g := random(r, 8), random(r, 8)
		k, _ := Print(f)
		l, _ := Print(g)
		// the weakest expressions stand in parentheses beside each operation
		for _, op := range slices.Concat(binaryOps...) {
			both := slices.Concat(tokens("("), k, tokens(") "+op+" ("), l, tokens(")"))
			h, e := Parse(both)
			if want := slices.Concat(f, g, api.Formula{{Kind: api.OpBinary, Text: op}}); e != api.OK || !slices.Equal(h, want) {
				t.Fatal(both, e, h)
			}
		}
	}
}

// reader reads the tokens of an expression one by one.
type reader struct {
	state  string   // behind what the next token is: a name, load, in, "in (", "f (" (of a call), an operand, or something else that an operand stands behind
	within []string // what the next token is within: unary operations, and of parentheses what stands in front of them
	commas []int    // how many there were in each of them
}

// enter reads a token that the next ones are within.
func (r *reader) enter(what, state string) api.Errno {
	if len(r.within) > api.MaxDepth {
		return api.ErrDeep
	}
	r.within, r.commas, r.state = append(r.within, what), append(r.commas, 0), state
	return api.OK
}

// leave reads the end of what was entered last.
func (r *reader) leave() api.Errno {
	last := len(r.within) - 1
	r.within, r.commas, r.state = r.within[:last], r.commas[:last], "operand"
	return api.OK
}

// read reads a token, and returns its first error.
func (r *reader) read(x string) api.Errno {
	_, e := token.Number(x)
	state := r.state
	wantsOperand := state == "" || state == "f ("
	switch {
	case state == "name" && x == "(":
		return r.enter("f", "f (")
	case state == "load" && x == "(":
		return r.enter("load", "")
	case state == "in" && x == "(":
		return r.enter("in", "in (")
	case (state == "in (" || state == "f (") && x == ")":
		return r.leave()
	case wantsOperand && x == "(":
		return r.enter("(", "")
	case wantsOperand && slices.Contains(unaryOps, x):
		return r.enter(x, "")
	case wantsOperand && (x == "load" || x == "in"):
		r.state = x
	case wantsOperand && token.Name(x):
		r.state = "name"
	case wantsOperand && e == api.OK:
		r.state = "operand"
	case state == "name" || state == "operand":
		return r.behindOperand(x)
	default:
		return api.ErrSyntax
	}
	return api.OK
}

// behindOperand reads a token behind an operand, which ends all unary operations in front of it.
func (r *reader) behindOperand(x string) api.Errno {
	for len(r.within) > 0 && slices.Contains(unaryOps, r.within[len(r.within)-1]) {
		r.leave()
	}
	last := len(r.within) - 1
	switch {
	case slices.Contains(slices.Concat(binaryOps...), x):
		r.state = ""
	case last >= 0 && x == ")":
		return r.leave()
	case last >= 0 && x == "," && r.within[last] == "f":
		if r.commas[last]++; r.commas[last] == api.MaxParams {
			return api.ErrTooLarge
		}
		r.state = ""
	default:
		return api.ErrSyntax
	}
	return api.OK
}

// firstError returns the first error of some tokens from the left.
func firstError(l []api.Token) api.Errno {
	r := reader{}
	for _, x := range l {
		if e := r.read(x.Text); e != api.OK {
			return e
		}
	}
	isOpen := slices.ContainsFunc(r.within, func(s string) bool { return !slices.Contains(unaryOps, s) })
	if isOpen || r.state != "name" && r.state != "operand" {
		return api.ErrSyntax
	}
	return api.OK
}

// P8.1: of several errors the first one from the left decides.
func TestFirstErrorByDefinition(t *testing.T) {
	r := rand.New(rand.NewSource(4))
	parts := tokens("a a 1 f load in ( ( ( ) ) , , - ! + if")
	counts := map[api.Errno]int{}
	for range 50000 {
		// begins deep, or with some arguments, or with nothing, and some lists have an end
		opened := r.Intn(2) * 12
		l := slices.Concat(slices.Repeat(tokens("f ("), opened), slices.Repeat(tokens("-"), r.Intn(2)*11), slices.Repeat(tokens("f ( a , a , a , a , a , a , a ,"), r.Intn(2)))
		for range r.Intn(12) {
			l = append(l, parts[r.Intn(len(parts))])
		}
		l = append(l, slices.Repeat(tokens(")"), r.Intn(2)*(opened+r.Intn(4)))...)
		_, e := Parse(l)
		if want := firstError(l); e != want {
			t.Fatal(l, e, want)
		}
		counts[e]++
	}
	for _, e := range []api.Errno{api.OK, api.ErrSyntax, api.ErrDeep, api.ErrTooLarge} {
		if counts[e] < 100 {
			t.Error(e, counts[e])
		}
	}
}

// P8.2: the folded formula is what is left when operations are replaced in any order.
func TestFoldByDefinition(t *testing.T) {
	r := rand.New(rand.NewSource(5))
	for range 20000 {
		f := random(r, 1+r.Intn(30))
		folded, e := Fold(f)
		want := replaced(r, f)
		n, is := Value(f)
		constant := len(want) == 1 && want[0].Kind == api.OpNumber
		if e != api.OK || !slices.Equal(folded, want) || is != constant || constant && n != want[0].N || !constant && n != 0 {
			t.Fatal(f, e, folded, want, n, is)
		}
	}
}

// replaced replaces operations behind numbers by numbers, one by one in a random order, as long as there are any.
func replaced(r *rand.Rand, f api.Formula) api.Formula {
	f = slices.Clone(f)
	for {
		type place struct {
			from, to int
			n        uint32
		}
		var places []place
		for i, op := range f {
			isNumber := func(j int) bool { return j >= 0 && f[j].Kind == api.OpNumber }
			if op.Kind == api.OpUnary && isNumber(i-1) {
				n, _ := Unary(op.Text, f[i-1].N)
				places = append(places, place{i - 1, i + 1, n})
			}
			if op.Kind == api.OpBinary && isNumber(i-1) && isNumber(i-2) {
				n, _ := Binary(op.Text, f[i-2].N, f[i-1].N)
				places = append(places, place{i - 2, i + 1, n})
			}
		}
		if len(places) == 0 {
			return f
		}
		p := places[r.Intn(len(places))]
		f = slices.Replace(f, p.from, p.to, api.Op{Kind: api.OpNumber, N: p.n})
	}
}

// run returns the value of a formula, and what it does on the way: its calls, loads and inputs.
func run(f api.Formula) (uint32, []string) {
	var values []uint32
	var done []string
	for _, op := range f {
		taken := map[int]int{api.OpCall: int(op.N), api.OpLoad: 1, api.OpUnary: 1, api.OpBinary: 2}[op.Kind]
		from := len(values) - taken
		args := values[from:]
		n := op.N
		switch op.Kind {
		case api.OpName:
			n = uint32(op.Text[0]) * 0x1234567
		case api.OpCall, api.OpLoad, api.OpIn:
			done = append(done, fmt.Sprint(op.Kind, op.Text, args))
			n = uint32(len(done)) * 0x9e3779b1
		case api.OpUnary:
			n, _ = Unary(op.Text, args[0])
		case api.OpBinary:
			n, _ = Binary(op.Text, args[0], args[1])
		}
		values = append(values[:from], n)
	}
	return values[0], done
}

// P8.4: folding changes no value, and no order of calls, loads and inputs.
func TestFoldChangesNothing(t *testing.T) {
	r := rand.New(rand.NewSource(6))
	for range 20000 {
		f := random(r, 1+r.Intn(60))
		folded, _ := Fold(f)
		n, done := run(f)
		n2, done2 := run(folded)
		if n != n2 || !slices.Equal(done, done2) {
			t.Fatal(f, folded, n, n2, done, done2)
		}
		if value, is := Value(f); is && value != n {
			t.Fatal(f, value, n)
		}
	}
}

// P8.1 and P8.2: whatever the operations and tokens are, there is a result or an error, and never both; what is valid for one function is so for all.
func TestAnyArguments(t *testing.T) {
	r := rand.New(rand.NewSource(7))
	texts := []string{"", "", "", "a", "f", "-", "+", "~", "in", "1", "(", ")", ",", "=", "A"}
	valid := 0
	for range 100000 {
		var f api.Formula
		var l []api.Token
		for range 1 + r.Intn(4) {
			f = append(f, api.Op{Kind: r.Intn(9), Text: texts[r.Intn(len(texts))], N: []uint32{0, 0, 0, 1, 8, 9, 1<<32 - 1}[r.Intn(7)]})
			l = append(l, api.Token{Kind: r.Intn(5), Text: texts[r.Intn(len(texts))]})
		}
		e := Check(f)
		printed, e2 := Print(f)
		folded, e3 := Fold(f)
		n, is := Value(f)
		if e != e2 || e != e3 || (e == api.OK) != (len(printed) > 0) || (e == api.OK) != (len(folded) > 0) || is && e != api.OK || !is && n != 0 {
			t.Fatal(f, e, e2, e3, n, is)
		}
		if e == api.OK {
			valid++
		}
		if g, e := Parse(l); (e == api.OK) != (len(g) > 0) || e == api.OK && Check(g) != api.OK {
			t.Fatal(l, e, g)
		}
	}
	if valid < 500 {
		t.Error(valid)
	}
}
