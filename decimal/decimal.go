// Package decimal belongs to no layer: it reads the numbers of texts.
package decimal

import "strconv"

// Parse returns the number that a text of at most some digits is in decimal, without a sign and without leading zeros, and whether it is one.
func Parse(text string, digits int) (int, bool) {
	if len(text) > digits {
		return 0, false
	}
	n, err := strconv.Atoi(text)
	// Atoi reads signs and leading zeros, too
	if err != nil || n < 0 || strconv.Itoa(n) != text {
		return 0, false
	}
	return n, true
}
