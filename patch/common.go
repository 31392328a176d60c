package patch

// pair is a line of one list and an equal line of another one.
type pair struct{ i, j int }

// common returns the pairs of the longest common subsequence of two lists whose list of pairs is the least one. The first line that can be the next one, with the first line that is equal to it, leads to the least list: what is behind a later equal line is behind the first one, too.
func common(a, b []string) []pair {
	longest := lengths(a, b)
	var pairs []pair
	at := 0
lines:
	for i := range a {
		for j := at; j < len(b); j++ {
			if a[i] != b[j] {
				continue
			}
			if longest[i+1][j+1]+1 == longest[i][at] {
				pairs = append(pairs, pair{i, j})
				at = j + 1
			}
			continue lines
		}
	}
	return pairs
}

// lengths returns for each i and j how long the longest common subsequence is of what is left of two lists behind i and j lines.
func lengths(a, b []string) [][]int {
	rows := make([][]int, len(a)+1)
	rows[len(a)] = make([]int, len(b)+1)
	for i := len(a) - 1; i >= 0; i-- {
		row, below := make([]int, len(b)+1), rows[i+1]
		for j := len(b) - 1; j >= 0; j-- {
			if a[i] == b[j] {
				row[j] = below[j+1] + 1
			} else {
				row[j] = max(below[j], row[j+1])
			}
		}
		rows[i] = row
	}
	return rows
}
