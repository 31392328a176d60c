package lineset

import (
	"strconv"
	"strings"

	"licit/api"
	"licit/decimal"
	"licit/tree"
)

// maxDigits is how many digits a number in a text has at most.
const maxDigits = 4

// Print returns the text of a set: ErrArg, if it is not valid.
func Print(l api.Lines) (string, api.Errno) {
	if !Valid(l) {
		return "", api.ErrArg
	}
	var text strings.Builder
	for _, s := range l {
		text.WriteString(s.Path + " " + strconv.Itoa(s.From) + " " + strconv.Itoa(s.To) + "\n")
	}
	return text.String(), api.OK
}

// Parse returns the set of a text, and -1; with an error, the number of the first wrong line: ErrSyntax, if it does not have its form; ErrName, if it has no path; ErrRange, if it has no lines of a file; ErrOrder, if its span may not stand behind the one before.
func Parse(s string) (api.Lines, int, api.Errno) {
	var l api.Lines
	for n := 0; s != ""; n++ {
		line, rest, ends := strings.Cut(s, "\n")
		if !ends {
			return nil, n, api.ErrSyntax
		}
		x, e := parse(line)
		if e == api.OK && n > 0 && !follows(x, l[n-1]) {
			e = api.ErrOrder
		}
		if e != api.OK {
			return nil, n, e
		}
		l = append(l, x)
		s = rest
	}
	return l, -1, api.OK
}

// parse returns the span of a line.
func parse(line string) (api.Span, api.Errno) {
	path, numbers, _ := strings.Cut(line, " ")
	// what would be a fourth part makes the third one no number
	left, right, _ := strings.Cut(numbers, " ")
	from, isFrom := decimal.Parse(left, maxDigits)
	to, isTo := decimal.Parse(right, maxDigits)
	switch {
	case !isFrom || !isTo:
		return api.Span{}, api.ErrSyntax
	case tree.Path(path) != api.OK:
		return api.Span{}, api.ErrName
	case !isSpan(from, to):
		return api.Span{}, api.ErrRange
	}
	return api.Span{Path: path, From: from, To: to}, api.OK
}
