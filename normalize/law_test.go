package normalize

import (
	"math/rand"
	"regexp"
	"slices"
	"strconv"
	"strings"
	"testing"

	"licit/api"
)

// wordShape matches the words of a line whose bytes are written as runes.
var wordShape = regexp.MustCompile(`[A-Za-z0-9_]+|[^\x00-\x20\x7f]`)

// noteShape matches a line that is a note.
var noteShape = regexp.MustCompile(`^[\x00-\x20\x7f]*note[\x00-\x20\x7f]+(0|[1-9][0-9]{0,3})[\x00-\x20\x7f]*$`)

// widen returns a string whose runes are the bytes of another one.
func widen(s string) string {
	var runes []rune
	for _, c := range []byte(s) {
		runes = append(runes, rune(c))
	}
	return string(runes)
}

// narrow returns the string whose bytes are the runes of another one.
func narrow(s string) string {
	var b []byte
	for _, c := range s {
		b = append(b, byte(c))
	}
	return string(b)
}

// model returns the words of a text by the words of the definition.
func model(path, data string, names, numbers bool) api.Text {
	t := api.Text{Path: path}
	lines := strings.Split(data, "\n")
	for i := 0; i < len(lines); i++ {
		if m := noteShape.FindStringSubmatch(lines[i]); m != nil {
			n, _ := strconv.Atoi(m[1])
			i += n
			continue
		}
		for _, s := range wordShape.FindAllString(widen(lines[i]), -1) {
			s = narrow(s)
			switch {
			case regexp.MustCompile(`^[0-9]`).MatchString(s):
				if numbers {
					s = "$0"
				}
			case regexp.MustCompile(`^[A-Za-z_]`).MatchString(s):
				if names {
					s = "$n"
				}
			}
			t.Words = append(t.Words, word(s, i))
		}
	}
	return t
}

// P23.1: the words of all short lines of a few parts, and of random texts, are those of the definition.
func TestWordsByDefinition(t *testing.T) {
	check := func(data string) {
		for _, names := range []bool{false, true} {
			for _, numbers := range []bool{false, true} {
				got, e := Words("a", data, names, numbers)
				if e != api.OK || !equal(got, model("a", data, names, numbers)) || !Valid(got) {
					t.Fatalf("%q %v %v", data, got, e)
				}
			}
		}
	}
	var grow func(data string, left int)
	parts := []string{" ", "\n", "note", "x", "_", "0", "1", "2", ";", "\xff"}
	grow = func(data string, left int) {
		check(data)
		if left > 0 {
			for _, p := range parts {
				grow(data+p, left-1)
			}
		}
	}
	grow("", 4)
	// behind what makes it a note, more is tried
	grow("note ", 3)
	grow("note 1\n", 3)
	grow("note 2\nx\n", 3)
	r := rand.New(rand.NewSource(1))
	for range 4000 {
		check(someData(r))
	}
}

// P23.2: printed forms, lines of all runs, and validity of random texts are those of the definition.
func TestTextsByDefinition(t *testing.T) {
	r := rand.New(rand.NewSource(2))
	for range 1000 {
		x, _ := Words("a/b", someData(r), r.Intn(2) == 0, r.Intn(2) == 0)
		var want strings.Builder
		for n := range api.MaxLines {
			var words []string
			for _, w := range x.Words {
				if w.Line == n {
					words = append(words, w.Text)
				}
			}
			if len(words) > 0 {
				want.WriteString(strconv.Itoa(n) + ": " + strings.Join(words, " ") + "\n")
			}
		}
		if s, e := Print(x); e != api.OK || s != want.String() {
			t.Fatalf("%v %q %v", x, s, e)
		}
		for from := range len(x.Words) + 1 {
			for to := from; to <= len(x.Words); to++ {
				l, e := Lines(x, from, to)
				if e != api.OK || !slices.Equal(numbers(l), numbersOf(x.Words[from:to])) {
					t.Fatal(x, from, to, l, e)
				}
			}
		}
	}
}

// numbers returns the numbers of the lines of a set of one file.
func numbers(l api.Lines) []int {
	var n []int
	for _, s := range l {
		for i := s.From; i < s.To; i++ {
			n = append(n, i)
		}
	}
	return n
}

// numbersOf returns the numbers of the lines of some words, each once.
func numbersOf(l []api.Lexeme) []int {
	var n []int
	for _, w := range l {
		n = append(n, w.Line)
	}
	return slices.Compact(n)
}

// P23.3: what two texts have in common is the longest run that is equal, at all positions.
func TestCommonByDefinition(t *testing.T) {
	r := rand.New(rand.NewSource(3))
	for range 600 {
		a, _ := Words("a", someData(r), true, true)
		b, _ := Words("b", someData(r), true, true)
		texts := func(x api.Text) []string {
			var l []string
			for _, w := range x.Words {
				l = append(l, w.Text)
			}
			return l
		}
		k, l := texts(a), texts(b)
		for i := -1; i <= len(k)+1; i++ {
			for j := -1; j <= len(l)+1; j++ {
				want := 0
				for n := 1; i >= 0 && j >= 0 && i+n <= len(k) && j+n <= len(l); n++ {
					if slices.Equal(k[i:i+n], l[j:j+n]) {
						want = n
					}
				}
				if n := Common(a, i, b, j); n != want {
					t.Fatal(a, i, b, j, n)
				}
			}
		}
	}
}

// words returns the words of a text, which has to have no error.
func words(t *testing.T, data string, names, numbers bool) []api.Lexeme {
	x, e := Words("a", data, names, numbers)
	if e != api.OK {
		t.Fatalf("%q %v", data, e)
	}
	return x.Words
}

// moved returns words whose lines have numbers that are greater.
func moved(l []api.Lexeme, n int) []api.Lexeme {
	l = slices.Clone(l)
	for i := range l {
		l[i].Line += n
	}
	return l
}

// isPart says whether a word is a name or a number, which would become a longer one next to another one.
func isPart(s string) bool { return regexp.MustCompile(`^[A-Za-z0-9_]`).MatchString(s) }

// spread returns a text in which the blanks of each line are others, but that has the same lines.
func spread(r *rand.Rand, data string) string {
	var lines []string
	for _, line := range strings.Split(data, "\n") {
		s, before := someBlanks(r, 0), ""
		for _, w := range wordShape.FindAllString(widen(line), -1) {
			w = narrow(w)
			if isPart(before) && isPart(w) {
				s += someBlanks(r, 1)
			} else {
				s += someBlanks(r, 0)
			}
			s, before = s+w, w
		}
		lines = append(lines, s+someBlanks(r, 0))
	}
	return strings.Join(lines, "\n")
}

// P23.4: blanks change nothing; classes change neither the number of words nor their lines.
func TestBlanksAndClasses(t *testing.T) {
	r := rand.New(rand.NewSource(4))
	for range 2000 {
		data := someData(r)
		other := spread(r, data)
		plain := words(t, data, false, false)
		for _, names := range []bool{false, true} {
			for _, numbers := range []bool{false, true} {
				l := words(t, data, names, numbers)
				if !slices.Equal(words(t, other, names, numbers), l) {
					t.Fatalf("%q %q", data, other)
				}
				if !slices.EqualFunc(l, plain, func(x, y api.Lexeme) bool { return x.Line == y.Line }) {
					t.Fatalf("%q %v", data, l)
				}
			}
		}
	}
}

// P23.4: a note that is put between two lines, or at an end, changes the numbers of lines only.
func TestNoteBetweenLines(t *testing.T) {
	r := rand.New(rand.NewSource(5))
	found := 0
	for range 3000 {
		lines := strings.Split(someData(r), "\n")
		at := r.Intn(len(lines) + 1)
		before, behind := strings.Join(lines[:at], "\n"), strings.Join(lines[at:], "\n")
		// a note in front must not reach that far; the new one is then divided from what it follows
		if at > 0 && !slices.Equal(words(t, before+"\nlast", false, false), append(slices.Clone(words(t, before, false, false)), word("last", at))) {
			continue
		}
		found++
		n := r.Intn(3)
		note := []string{"note " + strconv.Itoa(n)}
		for range n {
			note = append(note, []string{"", "x y", "note 5", "note 0", "\xff"}[r.Intn(5)])
		}
		all := strings.Join(slices.Concat(lines[:at], note, lines[at:]), "\n")
		want := words(t, behind, false, false)
		if at == len(lines) {
			want = nil
		}
		want = slices.Concat(words(t, before, false, false), moved(want, at+n+1))
		if got := words(t, all, false, false); !slices.Equal(got, want) {
			t.Fatalf("%q %v", all, got)
		}
		// without the note the words are the same, in other lines
		plain := words(t, strings.Join(lines, "\n"), false, false)
		if !slices.EqualFunc(plain, want, func(x, y api.Lexeme) bool { return x.Text == y.Text }) {
			t.Fatalf("%q %v", all, plain)
		}
	}
	if found < 1000 {
		t.Error(found)
	}
}

// rename returns a text in whose names a part is replaced by another one.
func rename(data, old, new string) string {
	return narrow(regexp.MustCompile(`[A-Za-z0-9_]+`).ReplaceAllStringFunc(widen(data), func(s string) string {
		if s[0] >= '0' && s[0] <= '9' {
			return s
		}
		return strings.ReplaceAll(s, old, new)
	}))
}

// P23.4: renaming a letter of names changes nothing if names are classes, and something if they are none.
func TestRenaming(t *testing.T) {
	r := rand.New(rand.NewSource(6))
	for range 2000 {
		data := someData(r)
		// the letters of note are not among these
		for _, x := range [][2]string{{"x", "q"}, {"y", "_"}, {"Z", "b"}, {"ab", "a9"}, {"x", "y"}} {
			renamed := rename(data, x[0], x[1])
			for _, numbers := range []bool{false, true} {
				if !slices.Equal(words(t, data, true, numbers), words(t, renamed, true, numbers)) {
					t.Fatalf("%q %q", data, renamed)
				}
			}
		}
		hasX := slices.ContainsFunc(words(t, data, false, true), func(w api.Lexeme) bool { return strings.Contains(w.Text, "x") })
		if slices.Equal(words(t, data, false, false), words(t, rename(data, "x", "q"), false, false)) == hasX {
			t.Fatalf("%q", data)
		}
	}
}

// P23.4: without notes the words of two texts, one behind the other, are those of both.
func TestOneBehindTheOther(t *testing.T) {
	r := rand.New(rand.NewSource(7))
	for range 3000 {
		// a dot behind the word divides it from a number that would make it a note
		a, b := strings.ReplaceAll(someData(r), "note", "note."), strings.ReplaceAll(someData(r), "note", "note.")
		for _, classes := range []bool{false, true} {
			want := slices.Concat(words(t, a, classes, classes), moved(words(t, b, classes, classes), strings.Count(a, "\n")+1))
			if got := words(t, a+"\n"+b, classes, classes); !slices.Equal(got, want) {
				t.Fatalf("%q %q %v", a, b, got)
			}
		}
	}
}

// P23.2, P23.4: different valid texts of a path have different printed forms, since words have no blanks.
func TestPrintedForms(t *testing.T) {
	r := rand.New(rand.NewSource(8))
	forms := map[string][]api.Lexeme{}
	for range 4000 {
		l := words(t, someData(r), true, true)
		s, e := Print(api.Text{Path: "a", Words: l})
		if before, found := forms[s]; e != api.OK || found && !slices.Equal(before, l) {
			t.Fatalf("%q %v %v", s, l, before)
		}
		forms[s] = l
	}
}
