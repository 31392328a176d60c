package align

import (
	"math"

	"licit/api"
)

// maxCost is the greatest cost of a step, maxNumber the greatest number of a potential.
const (
	maxCost   = 1000
	maxNumber = 1 << 40
)

// task is to come from one list to another one. Its numbers stand for words: they are equal if the words are, so that long words need not be compared again and again.
type task struct {
	a, b  []int
	costs api.Costs
}

// begin returns the task for two lists and costs: ErrRange, if the costs are not valid; ErrTooLarge, if a list has too many words.
func begin(a, b []api.Lexeme, c api.Costs) (task, api.Errno) {
	for _, cost := range [3]int{c.Change, c.Drop, c.Add} {
		if cost < 1 || cost > maxCost {
			return task{}, api.ErrRange
		}
	}
	if len(a) > api.MaxList || len(b) > api.MaxList {
		return task{}, api.ErrTooLarge
	}
	known := map[string]int{}
	return task{numbers(a, known), numbers(b, known), c}, api.OK
}

// numbers returns the numbers of words; known are those that were given before, to which new ones are added.
func numbers(l []api.Lexeme, known map[string]int) []int {
	var list []int
	for _, word := range l {
		n, found := known[word.Text]
		if !found {
			n = len(known)
			known[word.Text] = n
		}
		list = append(list, n)
	}
	return list
}

// takes returns how many words of both lists a step takes: none, if it is no step.
func takes(step int) (int, int) {
	switch step {
	case api.AlignKeep, api.AlignChange:
		return 1, 1
	case api.AlignDrop:
		return 1, 0
	case api.AlignAdd:
		return 0, 1
	}
	return 0, 0
}

// both returns the step that takes a word of each list.
func (t task) both(i, j int) int {
	if t.a[i] == t.b[j] {
		return api.AlignKeep
	}
	return api.AlignChange
}

// cost returns that of a step.
func (t task) cost(step int) int {
	switch step {
	case api.AlignChange:
		return t.costs.Change
	case api.AlignDrop:
		return t.costs.Drop
	case api.AlignAdd:
		return t.costs.Add
	}
	return 0
}

// ways returns the numbers of a table with which one comes to a place: by a step that takes a word of both lists, by dropping and by adding one. A way that does not exist has a number that is greater than all others.
func (t task) ways(p [][]int, i, j int) [3]int {
	ways := [3]int{math.MaxInt, math.MaxInt, math.MaxInt}
	if i > 0 && j > 0 {
		ways[0] = p[i-1][j-1] + t.cost(t.both(i-1, j-1))
	}
	if i > 0 {
		ways[1] = p[i-1][j] + t.costs.Drop
	}
	if j > 0 {
		ways[2] = p[i][j-1] + t.costs.Add
	}
	return ways
}

// most returns the greatest number that a potential may have at a place, if the ones in front of it are given.
func (t task) most(p [][]int, i, j int) int {
	if i+j == 0 {
		return 0
	}
	ways := t.ways(p, i, j)
	return min(ways[0], ways[1], ways[2])
}

// table returns the greatest potential, whose numbers are the distances of the beginnings of both lists.
func (t task) table() [][]int {
	p := make([][]int, len(t.a)+1)
	for i := range len(t.a) + 1 {
		p[i] = make([]int, len(t.b)+1)
		for j := range len(t.b) + 1 {
			p[i][j] = t.most(p, i, j)
		}
	}
	return p
}

// first returns the first step, in the order of their numbers, with which one comes to a place of the table at its number; the place is not the beginning.
func (t task) first(p [][]int, i, j int) int {
	ways := t.ways(p, i, j)
	switch p[i][j] {
	case ways[0]:
		return t.both(i-1, j-1)
	case ways[1]:
		return api.AlignDrop
	}
	return api.AlignAdd
}

// isPotential says whether a table is one.
func (t task) isPotential(p [][]int) bool {
	if len(p) != len(t.a)+1 {
		return false
	}
	for i := range len(t.a) + 1 {
		if len(p[i]) != len(t.b)+1 {
			return false
		}
		for j := range len(t.b) + 1 {
			// the numbers in front were checked, so a sum with a cost is a number
			if p[i][j] < 0 || p[i][j] > maxNumber || p[i][j] > t.most(p, i, j) {
				return false
			}
		}
	}
	return true
}
