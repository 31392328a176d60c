package winnow

import (
	"slices"

	"licit/api"
)

// plainLeast returns the position that some numbers select by the definition: the last of those at which no number is less.
func plainLeast(l []int, from, to int) int {
	least := slices.Min(l[from:to])
	for at := to - 1; ; at-- {
		if l[at] == least {
			return at
		}
	}
}

// plainSelect returns the selected positions of a list by the definition: those that at least one of its windows selects.
func plainSelect(l []int, w int) []int {
	selected := make([]bool, len(l))
	for from := 0; from+w <= len(l); from++ {
		selected[plainLeast(l, from, from+w)] = true
	}
	var positions []int
	for at, is := range selected {
		if is {
			positions = append(positions, at)
		}
	}
	return positions
}

// plainShared returns the pairs of places with equal hashes by the definition.
func plainShared(a, b []api.Print) [][2]int {
	var pairs [][2]int
	for _, x := range a {
		for _, y := range b {
			if x.Hash == y.Hash {
				pairs = append(pairs, [2]int{x.At, y.At})
			}
		}
	}
	return pairs
}

// ascending returns the numbers from one on, n of them, which each are so much greater than the one before.
func ascending(first, step, n int) []int {
	var l []int
	for i := range n {
		l = append(l, first+i*step)
	}
	return l
}

// prints returns fingerprints at the places from 0 on with some hashes.
func prints(hashes ...int) []api.Print {
	var l []api.Print
	for i, hash := range hashes {
		l = append(l, api.Print{Hash: hash, At: i})
	}
	return l
}
