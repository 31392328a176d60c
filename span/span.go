// Package span belongs to no layer: it makes sets of lines for the layers that read source files.
package span

import (
	"cmp"
	"slices"
	"strings"

	"licit/api"
)

// Set returns the set of the lines of some spans, which may be empty, occur twice and overlap.
func Set(spans []api.Span) api.Lines {
	sorted := slices.SortedFunc(slices.Values(spans), func(a, b api.Span) int {
		return cmp.Or(strings.Compare(a.Path, b.Path), cmp.Compare(a.From, b.From))
	})
	var lines api.Lines
	for _, s := range sorted {
		last := len(lines) - 1
		switch {
		case s.From >= s.To:
			// no lines
		case last >= 0 && lines[last].Path == s.Path && s.From <= lines[last].To:
			lines[last].To = max(lines[last].To, s.To)
		default:
			lines = append(lines, s)
		}
	}
	return lines
}
