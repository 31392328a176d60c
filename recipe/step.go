package recipe

import (
	"slices"
	"strings"

	"licit/api"
	"licit/source"
	"licit/token"
	"licit/tree"
)

// parse returns the step of a line that is not empty, without the number of the line: ErrSyntax, if its words are not as in one of the rows; ErrName, if a word is not what it has to be; ErrTwice, if a flag occurs twice.
func parse(line string) (api.Step, api.Errno) {
	words := strings.Split(line, blank)
	if slices.Contains(words, "") {
		return api.Step{}, api.ErrSyntax
	}
	for _, r := range rows {
		if s, fits := r.fill(words); fits {
			if e := check(s); e != api.OK {
				return api.Step{}, e
			}
			return s, api.OK
		}
	}
	return api.Step{}, api.ErrSyntax
}

// check returns the first error of a step that has the form of a row.
func check(s api.Step) api.Errno {
	switch {
	case !are(isReference, s.In...), !are(isReference, s.Using...), !are(token.Name, s.Words...), tree.Path(s.Out) != api.OK:
		return api.ErrName
	case hasTwice(s.Words):
		return api.ErrTwice
	}
	return api.OK
}

// are says whether all words are of a sort.
func are(sort func(word string) bool, words ...string) bool {
	for _, w := range words {
		if !sort(w) {
			return false
		}
	}
	return true
}

// isReference says whether a word is a reference.
func isReference(word string) bool {
	if tree.Path(word) == api.OK {
		return true
	}
	// what denotes a file of another package denotes it in every package
	_, e := source.Reference("any", word)
	return e == api.OK
}

// hasTwice says whether a word occurs twice in a list.
func hasTwice(words []string) bool {
	seen := map[string]bool{}
	for _, w := range words {
		if seen[w] {
			return true
		}
		seen[w] = true
	}
	return false
}

// line returns the line of a step, and whether it is valid: it is if the line leads back to it. An empty or a divided word, for example, does not, nor does a list that its row does not have.
func line(s api.Step) (string, bool) {
	if s.Line < 0 || s.Line >= api.MaxLines {
		return "", false
	}
	for _, r := range rows {
		if r.kind != s.Kind {
			continue
		}
		text := r.print(s)
		if back, e := parse(text); e == api.OK && same(back, s) {
			return text, true
		}
	}
	return "", false
}

// same says whether two steps are equal, but for their lines.
func same(a, b api.Step) bool {
	return a.Kind == b.Kind && a.Out == b.Out && slices.Equal(a.In, b.In) && slices.Equal(a.Using, b.Using) && slices.Equal(a.Words, b.Words)
}
