package source

import (
	"slices"
	"strconv"
	"strings"

	"licit/api"
	"licit/token"
)

// blank stands between the words of a line.
const blank = " "

// row says what words the head lines with a first word have.
type row struct {
	word  string
	head  int
	name  bool // a name, or the reference of an include
	list  bool // parameters
	count bool // how many lines belong to it
	modes bool // export or weak can stand in front
}

// rows are the head lines that are not empty.
var rows = []row{
	{word: "include", head: api.HeadInclude, name: true},
	{word: "define", head: api.HeadDefine, name: true, list: true, count: true},
	{word: "undef", head: api.HeadUndef, name: true},
	{word: "when", head: api.HeadWhen, name: true, count: true},
	{word: "unless", head: api.HeadUnless, name: true, count: true},
	{word: "note", head: api.HeadNote, count: true},
	{word: "extern", head: api.HeadExtern, name: true},
	{word: "fn", head: api.HeadFn, name: true, list: true, count: true, modes: true},
	{word: "data", head: api.HeadData, name: true, count: true, modes: true},
}

// rowOf returns the row of a first word, and whether there is one.
func rowOf(word string) (row, bool) {
	for _, r := range rows {
		if r.word == word {
			return r, true
		}
	}
	return row{}, false
}

// rowFor returns the row of a Word; for all others one without words, as the empty line has it.
func rowFor(head int) row {
	for _, r := range rows {
		if r.head == head {
			return r
		}
	}
	return row{}
}

// modeOf returns the mode that a word in front of fn and data means, and Private for all other words.
func modeOf(word string) int {
	switch word {
	case "export":
		return api.Export
	case "weak":
		return api.Weak
	}
	return api.Private
}

// Parse returns the head of a line: ErrSyntax, if its words are not as in one of the rows; ErrName, if a word is not a name; ErrTwice or ErrTooLarge, if a parameter occurs twice, or there are too many; ErrRange, if too many lines belong to it.
func Parse(line string) (api.Head, api.Errno) {
	if line == "" {
		return api.Head{}, api.OK
	}
	h, fits := divide(strings.Split(line, blank))
	if !fits {
		return api.Head{}, api.ErrSyntax
	}
	if e := check(h); e != api.OK {
		return api.Head{}, e
	}
	return h, api.OK
}

// divide returns the head of some words, of which not more was checked than that their row has them, and whether there is such a row.
func divide(words []string) (api.Head, bool) {
	if slices.Contains(words, "") {
		return api.Head{}, false
	}
	h := api.Head{Mode: modeOf(words[0])}
	if h.Mode != api.Private {
		words = words[1:]
	}
	if len(words) == 0 {
		return api.Head{}, false
	}
	r, known := rowOf(words[0])
	if !known || h.Mode != api.Private && !r.modes {
		return api.Head{}, false
	}
	h.Word = r.head
	return fill(h, r, words[1:])
}

// fill adds to a head what the words behind the first one say, and returns whether they are as in its row.
func fill(h api.Head, r row, words []string) (api.Head, bool) {
	if r.count {
		last := len(words) - 1
		if last < 0 {
			return api.Head{}, false
		}
		n, e := token.Number(words[last])
		if e == api.ErrSyntax {
			return api.Head{}, false
		}
		if h.N = int(min(n, api.MaxLines+1)); e == api.ErrRange {
			h.N = api.MaxLines + 1
		}
		words = words[:last]
	}
	if r.name {
		if len(words) == 0 {
			return api.Head{}, false
		}
		h.Name, words = words[0], words[1:]
	}
	h.Params = slices.Clone(words)
	return h, r.list || len(words) == 0
}

// check returns the first error of a head that has the words of its row.
func check(h api.Head) api.Errno {
	switch {
	case !hasNames(h):
		return api.ErrName
	case hasTwice(h.Params):
		return api.ErrTwice
	case len(h.Params) > api.MaxParams:
		return api.ErrTooLarge
	case h.N > api.MaxLines:
		return api.ErrRange
	}
	return api.OK
}

// hasNames says whether the name of a head and its parameters are what they have to be.
func hasNames(h api.Head) bool {
	switch h.Word {
	case api.HeadInclude:
		return isReference(h.Name)
	case api.HeadNote:
		return true
	}
	return token.Name(h.Name) && areNames(h.Params)
}

// areNames says whether all strings are identifiers.
func areNames(list []string) bool {
	return !slices.ContainsFunc(list, func(s string) bool { return !token.Name(s) })
}

// hasTwice says whether a string occurs twice in a list.
func hasTwice(list []string) bool {
	seen := map[string]bool{}
	for _, s := range list {
		if seen[s] {
			return true
		}
		seen[s] = true
	}
	return false
}

// Print returns the line of a head: ErrArg, if it is not valid.
func Print(h api.Head) (string, api.Errno) {
	line := text(h)
	// a head is valid if its line leads back to it: an empty or a divided name, for example, does not
	back, e := Parse(line)
	if e != api.OK || !same(back, h) {
		return "", api.ErrArg
	}
	return line, api.OK
}

// text returns the line that a head has if it is valid.
func text(h api.Head) string {
	r := rowFor(h.Word)
	var words []string
	switch h.Mode {
	case api.Export:
		words = append(words, "export")
	case api.Weak:
		words = append(words, "weak")
	}
	words = append(words, r.word)
	if r.name {
		words = append(words, h.Name)
	}
	words = append(words, h.Params...)
	if r.count {
		words = append(words, strconv.Itoa(h.N))
	}
	return strings.Join(words, blank)
}

// same says whether two heads are equal.
func same(a, b api.Head) bool {
	return a.Word == b.Word && a.Mode == b.Mode && a.Name == b.Name && a.N == b.N && slices.Equal(a.Params, b.Params)
}
