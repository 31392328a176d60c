package align

import (
	"math"
	"math/rand"
	"slices"
	"strconv"
	"strings"

	"licit/api"
)

// Short names of the steps.
const (
	keep   = api.AlignKeep
	change = api.AlignChange
	drop   = api.AlignDrop
	add    = api.AlignAdd
)

// words returns words with some texts, whose lines differ.
func words(texts ...string) []api.Lexeme {
	var l []api.Lexeme
	for i, s := range texts {
		l = append(l, api.Lexeme{Text: s, Line: i / 2})
	}
	return l
}

// letters returns a word for each byte of a string, in one line.
func letters(s string) []api.Lexeme {
	var l []api.Lexeme
	for i := range len(s) {
		l = append(l, api.Lexeme{Text: s[i : i+1], Line: 5})
	}
	return l
}

// many returns n words; those of the same number, modulo how many are different, are equal.
func many(n, different int) []api.Lexeme {
	var l []api.Lexeme
	for i := range n {
		l = append(l, api.Lexeme{Text: "w" + strconv.Itoa(i%different), Line: i})
	}
	return l
}

// someWords returns up to so many words at random, which are few different ones.
func someWords(r *rand.Rand, most int) []api.Lexeme {
	different := 1 + r.Intn(4)
	var l []api.Lexeme
	for range r.Intn(most + 1) {
		l = append(l, api.Lexeme{Text: "abcd"[:1+r.Intn(different)], Line: r.Intn(9)})
	}
	return l
}

// someCosts returns valid costs at random, mostly small ones.
func someCosts(r *rand.Rand) api.Costs {
	one := func() int {
		if r.Intn(8) == 0 {
			return 1 + r.Intn(1000)
		}
		return 1 + r.Intn(4)
	}
	return api.Costs{Change: one(), Drop: one(), Add: one()}
}

// edited returns words some of which are dropped, changed, or have others behind them.
func edited(r *rand.Rand, l []api.Lexeme) []api.Lexeme {
	var other []api.Lexeme
	for _, word := range l {
		switch r.Intn(8) {
		case 0:
			continue
		case 1:
			word.Text = "b"
		case 2:
			other = append(other, letters("a")...)
		}
		other = append(other, word)
	}
	return other
}

// eachList calls a function with all lists of up to so many words, which are some letters.
func eachList(alphabet string, most int, f func(l []api.Lexeme)) {
	var grow func(s string)
	grow = func(s string) {
		f(letters(s))
		if len(s) < most {
			for _, c := range alphabet {
				grow(s + string(c))
			}
		}
	}
	grow("")
}

// costs returns those of a change, of dropping and of adding.
func costs(change, drop, add int) api.Costs { return api.Costs{Change: change, Drop: drop, Add: add} }

// someKinds returns costs in which a change costs less than dropping and adding, as much, and more, and in which dropping and adding differ.
func someKinds() []api.Costs {
	return []api.Costs{
		costs(1, 1, 1), costs(3, 2, 2), costs(4, 2, 2), costs(5, 2, 2), costs(2, 1, 1), costs(1, 3, 2), costs(2, 1, 3), costs(4, 3, 1), costs(1000, 1, 1000), costs(1, 1000, 1000), costs(1000, 1000, 1000), costs(1000, 1, 1), costs(3, 1, 1),
	}
}

// outside returns numbers that are no costs.
func outside() []int { return []int{0, -1, -1000, 1001, math.MinInt, math.MaxInt} }

// badCosts returns costs of which one, two or three are outside.
func badCosts() []api.Costs {
	var l []api.Costs
	for _, bad := range outside() {
		l = append(l, costs(bad, 1, 1), costs(1, bad, 1), costs(1, 1, bad), costs(bad, 1000, bad), costs(1000, bad, bad), costs(bad, bad, bad))
	}
	return append(l, api.Costs{})
}

// spell returns the texts of words.
func spell(l []api.Lexeme) string {
	var parts []string
	for _, word := range l {
		parts = append(parts, strconv.Quote(word.Text))
	}
	return strings.Join(parts, " ")
}

// eachAlignment calls a function with all alignments of two lists, in lexicographic order, by the definition. The steps are only valid during the call.
func eachAlignment(a, b []api.Lexeme, c api.Costs, f func(x api.Alignment)) {
	var steps []int
	var walk func(i, j, cost int)
	walk = func(i, j, cost int) {
		if i == len(a) && j == len(b) {
			f(api.Alignment{Cost: cost, Steps: steps})
		}
		step := func(kind, i, j, cost int) {
			steps = append(steps, kind)
			walk(i, j, cost)
			steps = steps[:len(steps)-1]
		}
		if i < len(a) && j < len(b) {
			if a[i].Text == b[j].Text {
				step(keep, i+1, j+1, cost)
			} else {
				step(change, i+1, j+1, cost+c.Change)
			}
		}
		if i < len(a) {
			step(drop, i+1, j, cost+c.Drop)
		}
		if j < len(b) {
			step(add, i, j+1, cost+c.Add)
		}
	}
	walk(0, 0, 0)
}

// plainBest returns the best alignment of two short lists by the definition: the first one that costs least.
func plainBest(a, b []api.Lexeme, c api.Costs) api.Alignment {
	best := api.Alignment{Cost: math.MaxInt}
	eachAlignment(a, b, c, func(x api.Alignment) {
		if x.Cost < best.Cost {
			best = api.Alignment{Cost: x.Cost, Steps: slices.Clone(x.Steps)}
		}
	})
	return best
}

// better says whether an alignment is better than another one.
func better(x, y api.Alignment) bool {
	return x.Cost < y.Cost || x.Cost == y.Cost && slices.Compare(x.Steps, y.Steps) < 0
}

// grownBest returns the best alignment of lists that are not that short: from the best ones of all their beginnings. (Of two best alignments of beginnings, the first one stays the first if the same steps follow, since none is a beginning of the other one.)
func grownBest(a, b []api.Lexeme, c api.Costs) api.Alignment {
	table := make([][]api.Alignment, len(a)+1)
	for i := range table {
		table[i] = make([]api.Alignment, len(b)+1)
		for j := range table[i] {
			best := api.Alignment{Cost: math.MaxInt}
			try := func(x api.Alignment, kind, cost int) {
				if y := (api.Alignment{Cost: x.Cost + cost, Steps: append(slices.Clip(x.Steps), kind)}); better(y, best) {
					best = y
				}
			}
			if i > 0 && j > 0 {
				if a[i-1].Text == b[j-1].Text {
					try(table[i-1][j-1], keep, 0)
				} else {
					try(table[i-1][j-1], change, c.Change)
				}
			}
			if i > 0 {
				try(table[i-1][j], drop, c.Drop)
			}
			if j > 0 {
				try(table[i][j-1], add, c.Add)
			}
			if i+j > 0 {
				table[i][j] = best
			}
		}
	}
	return table[len(a)][len(b)]
}

// somePotential returns a potential at random: each number is at most as much less than it might be.
func somePotential(r *rand.Rand, a, b []api.Lexeme, c api.Costs, less int) [][]int {
	p := make([][]int, len(a)+1)
	for i := range p {
		p[i] = make([]int, len(b)+1)
		for j := range p[i] {
			if i+j > 0 {
				p[i][j] = max(0, slices.Min(limits(a, b, c, p, i, j))-r.Intn(less+1))
			}
		}
	}
	return p
}

// limits returns what a number of a potential may be at most, by each of the conditions that apply to it.
func limits(a, b []api.Lexeme, c api.Costs, p [][]int, i, j int) []int {
	var l []int
	if i > 0 {
		l = append(l, p[i-1][j]+c.Drop)
	}
	if j > 0 {
		l = append(l, p[i][j-1]+c.Add)
	}
	if i > 0 && j > 0 {
		n := p[i-1][j-1]
		if a[i-1].Text != b[j-1].Text {
			n += c.Change
		}
		l = append(l, n)
	}
	return l
}

// copied returns a copy of a table.
func copied(p [][]int) [][]int {
	var l [][]int
	for _, row := range p {
		l = append(l, slices.Clone(row))
	}
	return l
}

// isTable says whether two tables are equal.
func isTable(p, q [][]int) bool {
	return slices.EqualFunc(p, q, func(x, y []int) bool { return slices.Equal(x, y) })
}

// isAlignment says whether two alignments are equal.
func isAlignment(x, y api.Alignment) bool { return x.Cost == y.Cost && slices.Equal(x.Steps, y.Steps) }
