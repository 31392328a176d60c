package compile

import (
	"slices"
	"strconv"
	"strings"
	"testing"

	"licit/api"
	"licit/source"
)

// files returns a tree of paths with their texts, in which ; stands for a line feed.
func files(parts ...string) api.Tree {
	var t api.Tree
	for i := 0; i < len(parts); i += 2 {
		t = append(t, api.File{Path: parts[i], Data: strings.ReplaceAll(parts[i+1], ";", "\n")})
	}
	slices.SortFunc(t, func(a, b api.File) int { return strings.Compare(a.Path, b.Path) })
	return t
}

// scanned returns the unit of the file a/m, which has no fault.
func scanned(t *testing.T, tree api.Tree) api.Unit {
	t.Helper()
	u, f := source.Scan(tree, "a/m", nil)
	if f.Error != api.OK {
		t.Fatal(f, tree)
	}
	return u
}

// prelude is what functions and data of the tests can name: a function f with two parameters, one g without, data d, e from elsewhere, and macros. It has preludeSize lines.
const prelude = "fn f a b 0;fn g 0;data d 0;extern e;define two 1;2;define sum a b 1;( a + b );define lines 2;1 +;2;define none 0;define ret 1;return 7;"
const preludeSize = 14

// count returns the number of lines of a text with ; between them; the empty text has none.
func count(text string) int {
	if text == "" {
		return 0
	}
	return strings.Count(text, ";") + 1
}

// fileOf returns the file a/m with the prelude, and an item with a head, behind which the number of lines is still missing, and a body.
func fileOf(head, text string) api.Tree {
	n := count(text)
	file := prelude + head + " " + strconv.Itoa(n)
	if n > 0 {
		file += ";" + text
	}
	return files("a/m", file)
}

// section compiles the item t, with a head without its number of lines, and a body.
func section(t *testing.T, head, text string) (api.Section, api.Lines, api.Fault) {
	t.Helper()
	tree := fileOf(head, text)
	return Section(tree, scanned(t, tree), "t")
}

// unaryOps and binaryOps are the operations in the order of their indices.
var (
	unaryOps  = strings.Fields("- ~ !")
	binaryOps = strings.Fields("|| && | ^ & == != < <= > >= << >> + - * / %")
)

// instruction returns the text of the first instruction of some code, which begins at some byte of a section, and its size.
func instruction(code string, at int, relocs map[int]string) (string, int) {
	if len(code) < 6 {
		code += "\xff\xff\xff\xff\xff"
	}
	w := int32(uint32(code[1]) | uint32(code[2])<<8 | uint32(code[3])<<16 | uint32(code[4])<<24)
	number := strconv.Itoa(int(w))
	if name, found := relocs[at+1]; found && w == 0 {
		number = "@" + name
	}
	index := " " + strconv.Itoa(int(code[1]))
	switch code[0] {
	case 1:
		return number, 5
	case 2:
		return "get" + index, 2
	case 3:
		return "set" + index, 2
	case 4:
		return "load", 1
	case 5:
		return "store", 1
	case 6:
		return "in", 1
	case 7:
		return "out", 1
	case 8:
		return unaryOps[code[1]] + "1", 2
	case 9:
		return binaryOps[code[1]], 2
	case 10:
		return "jump " + number, 5
	case 11:
		return "zero " + number, 5
	case 12:
		return "call" + index, 2
	case 13:
		return "return", 1
	case 14:
		return "drop", 1
	}
	return "?", 1
}

// symbolsAt returns the symbols of the relocations of a section, by their places.
func symbolsAt(s api.Section) map[int]string {
	relocs := map[int]string{}
	for _, r := range s.Relocs {
		relocs[r.At] = r.Symbol
	}
	return relocs
}

// listing returns the text of a section of code: the numbers of parameters and variables, and all instructions, without those at the end of each function.
func listing(s api.Section) string {
	relocs := symbolsAt(s)
	parts := []string{strconv.Itoa(int(s.Data[0])) + " " + strconv.Itoa(int(s.Data[1]))}
	for at := 2; at < len(s.Data); {
		text, size := instruction(s.Data[at:], at, relocs)
		parts = append(parts, text)
		at += size
	}
	text, found := strings.CutSuffix(strings.Join(parts, "; "), "; 0; return")
	if !found || len(relocs) != strings.Count(text, "@") {
		return "?" + text
	}
	return text
}

// words returns the text of a section of data: its words, and the names of relocations.
func words(s api.Section) string {
	relocs := symbolsAt(s)
	var parts []string
	for at := 0; at < len(s.Data); at += 4 {
		w := uint32(s.Data[at]) | uint32(s.Data[at+1])<<8 | uint32(s.Data[at+2])<<16 | uint32(s.Data[at+3])<<24
		text := strconv.Itoa(int(int32(w)))
		if name, found := relocs[at]; found && w == 0 {
			text = "@" + name
		}
		parts = append(parts, text)
	}
	text := strings.Join(parts, " ")
	if len(relocs) != strings.Count(text, "@") {
		return "?" + text
	}
	return text
}

// showLines returns the text of a set of lines: those of the body of the item t by their numbers in it, those of the prelude with # in front.
func showLines(l api.Lines) string {
	var parts []string
	for _, s := range l {
		for n := s.From; n < s.To; n++ {
			switch {
			case s.Path != "a/m":
				parts = append(parts, s.Path+":"+strconv.Itoa(n))
			case n < preludeSize:
				parts = append(parts, "#"+strconv.Itoa(n))
			default:
				parts = append(parts, strconv.Itoa(n-preludeSize-1))
			}
		}
	}
	return strings.Join(parts, " ")
}

// isZero says whether results are those that come with a fault.
func isZero(s api.Section, l api.Lines) bool {
	return s.Kind == 0 && s.Data == "" && len(s.Relocs) == 0 && len(l) == 0
}

// at returns a fault at a line of the body of the item t.
func at(e api.Errno, n int) api.Fault {
	return api.Fault{Error: e, Package: -1, Step: -1, At: api.Line{Path: "a/m", N: preludeSize + 1 + n}}
}

// filler returns lines whose code has just n bytes, from 2 on, in a function whose first variable is x.
func filler(n int) string {
	var lines []string
	for n > 0 {
		// k times x with k - 1 operations between them, and a drop
		k := min(120, (n-1)/4)
		switch {
		case n == 2 || n == 4:
			lines = append(lines, "out in()")
			n -= 2
		case n == 3 || n == 5:
			lines = append(lines, "do x")
			n -= 3
		default:
			// of what is left one byte is too few
			if n-(4*k-1) == 1 {
				k--
			}
			lines = append(lines, "do x"+strings.Repeat("-x", k-1))
			n -= 4*k - 1
		}
	}
	return strings.Join(lines, ";")
}

// join joins texts of lines, of which some may have none.
func join(texts ...string) string {
	return strings.Join(slices.DeleteFunc(texts, func(s string) bool { return s == "" }), ";")
}

// The helpers of the tests are what they say.
func TestHelpers(t *testing.T) {
	if count(prelude) != preludeSize+1 {
		t.Error(count(prelude))
	}
	for n := range 700 {
		if n == 1 {
			continue
		}
		s, _, f := section(t, "fn t x", filler(n))
		if f.Error != api.OK || len(s.Data) != 2+n+6 {
			t.Fatal(n, f, len(s.Data))
		}
	}
}
