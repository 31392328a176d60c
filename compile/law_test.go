package compile

import (
	"math/rand"
	"slices"
	"strconv"
	"strings"
	"testing"
	"time"

	"licit/api"
	"licit/source"
	"licit/tree"
)

// writer writes random functions and data that often have no error.
type writer struct {
	*rand.Rand
	wrong int      // one of so many lines has an error; 0 for none
	runs  bool     // nothing is called that is no function
	made  int      // names that were used
	scope []string // variables that are visible
}

// pick returns one of some texts.
func (w *writer) pick(texts ...string) string { return texts[w.Intn(len(texts))] }

// expression returns an expression with up to n operations.
func (w *writer) expression(n int) string {
	if n <= 1 {
		return w.leaf()
	}
	left := w.expression(w.Intn(n))
	switch w.Intn(12) {
	case 0:
		return "(" + left + ")"
	case 1:
		return w.pick(unaryOps...) + " " + left
	case 2:
		return "load(" + left + ")"
	case 3:
		return "sum(" + w.leaf() + "," + left + ")"
	case 4:
		return "f(" + left + "," + w.leaf() + ")"
	case 5:
		if w.runs {
			return w.pick("g()", "in()", "x", "y", "d")
		}
		return w.pick("g()", "in()", "e("+left+")", "d(1)")
	}
	return left + " " + w.pick(binaryOps...) + " " + w.expression(n-1)
}

// leaf returns an expression without operations.
func (w *writer) leaf() string {
	switch k := w.Intn(20); {
	case k < 9 && len(w.scope) > 0:
		return w.pick(w.scope...)
	case k < 10:
		return w.pick("f", "g", "d", "e", "t", "none two")
	case k < 11 && w.wrong > 0 && w.Intn(w.wrong) == 0:
		return w.pick("zz", "f(1)", "g(1,2)", "let", "", "=", "x y", ")", "v1", "v2")
	}
	return w.pick("0", "1", "2", "3", "two", "lines", "7", "4294967295", "65536")
}

// constant returns an expression that is a constant.
func (w *writer) constant() string {
	return w.pick("0", "1", "1 - 1", "two", "!two", "2 < 3", "-1", "0 * lines")
}

// number returns the number of some lines, or a wrong one.
func (w *writer) number(lines []string) string {
	if w.wrong > 0 && w.Intn(w.wrong*4) == 0 {
		return w.pick("1", "0", "9", "x", "", "1 1")
	}
	return strconv.Itoa(len(lines))
}

// block returns the lines of a block of some statements.
func (w *writer) block(n, depth int) []string {
	var lines []string
	outer := len(w.scope)
	for range n {
		lines = append(lines, w.statement(depth)...)
	}
	if w.Intn(20) > 0 || w.wrong == 0 {
		w.scope = w.scope[:outer]
	}
	return lines
}

// inner returns the lines of a block in a block.
func (w *writer) inner(depth int) []string {
	if depth == 0 {
		return nil
	}
	return w.block(w.Intn(4), depth-1)
}

// statement returns the lines of a statement, and of all that belongs to it.
func (w *writer) statement(depth int) []string {
	e := w.expression(w.Intn(5))
	if w.wrong > 0 && w.Intn(w.wrong*2) == 0 {
		return []string{w.pick("?", "x", "let", "else 0", "set zz = 1", "let x = 1", "store 1", "if", "while 3", "do 1;else 0", "01", "let v0 = 1", "do sum(1)")}
	}
	switch w.Intn(14) {
	case 0:
		return []string{w.pick("", "  ", "none", "none none")}
	case 1, 2:
		name := "v" + strconv.Itoa(w.made)
		if w.Intn(8) == 0 {
			name = w.pick("d", "e", "g", "f")
		}
		if slices.Contains(w.scope, name) {
			return nil
		}
		w.made++
		w.scope = append(w.scope, name)
		// the expression was made before, and does not know the name
		return []string{"let " + name + " = " + e}
	case 3, 4:
		if len(w.scope) == 0 {
			return nil
		}
		return []string{"set " + w.pick(w.scope...) + " = " + e}
	case 5:
		return []string{w.pick("return "+e, "ret")}
	case 6:
		return []string{"store " + w.expression(2) + " = " + e}
	case 7:
		return []string{"out " + e}
	case 8, 9:
		return w.condition("if", e, depth)
	case 10:
		return w.condition("while", e, depth)
	case 11:
		lines := w.condition("if", e, depth)
		other := w.inner(depth)
		return append(append(lines, "else "+w.number(other)), other...)
	case 12:
		lines := w.condition("if", w.constant(), depth)
		other := w.inner(depth)
		return append(append(lines, "else "+w.number(other)), other...)
	}
	return []string{"do " + e}
}

// condition returns an if or a while with its lines.
func (w *writer) condition(word, e string, depth int) []string {
	if w.Intn(4) == 0 {
		e = w.constant()
	}
	lines := w.inner(depth)
	if strings.HasPrefix(e, "0") && w.Intn(2) == 0 && len(lines) > 0 {
		lines[w.Intn(len(lines))] = "?"
	}
	return append([]string{word + " " + e + " " + w.number(lines)}, lines...)
}

// words returns lines of data.
func (w *writer) words(n int) []string {
	var lines []string
	for range n {
		var parts []string
		for range w.Intn(4) {
			part := w.pick("0", "1 + 2", "f", "g", "d", "e", "t", "two", "sum(1, 2)", "(3)", "none 4", "-1")
			if w.wrong > 0 && w.Intn(w.wrong) == 0 {
				part = w.pick("", "x", "f()", "1 2", "(1, 2)", "(1", ")", "?", "01", "let", "f(1, 2)", "sum(1)", "(f)")
			}
			parts = append(parts, part)
		}
		lines = append(lines, strings.Join(parts, ","))
	}
	return lines
}

// item returns the head, without the number of lines, and the body of a random item t.
func (w *writer) item() (string, string) {
	if w.Intn(8) == 0 {
		return "data t", strings.Join(w.words(w.Intn(5)), ";")
	}
	w.made, w.scope = 0, []string{"x", "y"}
	front := ""
	if w.wrong > 0 && w.Intn(20) == 0 {
		front = filler(room - w.Intn(60))
	}
	text := join(front, strings.Join(w.block(1+w.Intn(5), 3), ";"))
	if w.wrong > 0 && w.Intn(10) == 0 {
		text = deep(api.MaxDepth-w.Intn(4), w.pick("if x", "if 1", "while y", "while 1"), text)
	}
	return "fn t x y", text
}

// equal says whether two sections are equal.
func equal(a, b api.Section) bool {
	return a.Kind == b.Kind && a.Data == b.Data && slices.Equal(a.Relocs, b.Relocs)
}

// linesOf returns the lines of a set.
func linesOf(set api.Lines) map[api.Line]bool {
	all := map[api.Line]bool{}
	for _, s := range set {
		for n := s.From; n < s.To; n++ {
			all[api.Line{Path: s.Path, N: n}] = true
		}
	}
	return all
}

// isSet says whether spans are a set: not empty, sorted, and apart from each other.
func isSet(set api.Lines) bool {
	for i, s := range set {
		if s.From >= s.To || i > 0 && (set[i-1].Path > s.Path || set[i-1].Path == s.Path && set[i-1].To >= s.From) {
			return false
		}
	}
	return true
}

// sameLines says whether two sets have the same lines.
func sameLines(a, b map[api.Line]bool) bool {
	for l := range a {
		if !b[l] {
			return false
		}
	}
	return len(a) == len(b)
}

// P9.1: random functions and data have the code, the lines and the faults of the definition.
func TestSectionByDefinition(t *testing.T) {
	w := &writer{Rand: rand.New(rand.NewSource(1))}
	counts := map[api.Errno]int{}
	for i := range 12000 {
		w.wrong = []int{0, 6, 20, 60}[i%4]
		head, text := w.item()
		tr := fileOf(head, text)
		u := scanned(t, tr)
		s, l, f := Section(tr, u, "t")
		want, read, fault := compiled(tr, u, "t")
		if f != fault || f.Error == api.OK && (!equal(s, want) || !isSet(l) || !sameLines(linesOf(l), read)) || f.Error != api.OK && !isZero(s, l) {
			t.Fatal(head, text, f, fault, s, want, l, read)
		}
		counts[f.Error]++
	}
	for _, e := range []api.Errno{api.OK, api.ErrSyntax, api.ErrShort, api.ErrName, api.ErrMismatch, api.ErrTwice, api.ErrTooLarge, api.ErrDeep} {
		if counts[e] < 60 {
			t.Error(e, counts[e])
		}
	}
}

// P9.3: lines that were not read do not change the section, the lines, or the fault.
func TestLinesThatWereNotRead(t *testing.T) {
	w := &writer{Rand: rand.New(rand.NewSource(2))}
	other, faults := 0, 0
	for i := range 3000 {
		w.wrong = []int{0, 10, 40}[i%3]
		head, text := w.item()
		tr := fileOf(head, text)
		u := scanned(t, tr)
		s, l, f := Section(tr, u, "t")
		_, read, _ := compiled(tr, u, "t")
		changed := tr
		heads := linesOf(u.Heads)
		lines, _ := tree.Lines(tr[0].Data)
		for n := range lines {
			if at := (api.Line{Path: "a/m", N: n}); !read[at] && !heads[at] {
				changed, _ = tree.Replace(changed, at, w.pick("?", "", "do zz", "else 0", "if 0 9", "x y z", "sum("))
				other++
			}
		}
		u2 := scanned(t, changed)
		s2, l2, f2 := Section(changed, u2, "t")
		if f != f2 || !equal(s, s2) || !slices.Equal(l, l2) {
			t.Fatal(head, text, changed, f, f2, s, s2)
		}
		if f.Error != api.OK {
			faults++
		}
	}
	if other < 1000 || faults < 500 {
		t.Error(other, faults)
	}
}

// unit returns a random file a/m with a file a/k that it includes, with some items that name each other.
func (w *writer) unit() api.Tree {
	texts := map[string]string{"a/m": "include k;" + prelude, "a/k": "define other 1;9;extern h"}
	for i := range 1 + w.Intn(5) {
		head, text := w.item()
		text = strings.ReplaceAll(text, "g", "t"+strconv.Itoa(w.Intn(5)))
		head = w.pick("", "", "export ", "weak ") + strings.Replace(head, " t", " t"+strconv.Itoa(i), 1) + " " + strconv.Itoa(count(text))
		path := w.pick("a/m", "a/m", "a/k")
		texts[path] = join(texts[path], head, text)
	}
	// expressions can name an item t, too
	return files("a/k", texts["a/k"], "a/m", texts["a/m"]+";export fn t p q 1;do p", "a/n", "?")
}

// P9.3: what follows from the definition of units.
func TestUnitLaws(t *testing.T) {
	w := &writer{Rand: rand.New(rand.NewSource(3))}
	works, private, other := 0, 0, 0
	for i := range 6000 {
		w.wrong = []int{0, 0, 100}[i%3]
		tr := w.unit()
		o, r, f := Unit(tr, "a/m", nil)
		u := scanned(t, tr)
		if len(o.Symbols) > 0 != (f.Error == api.OK) {
			t.Fatal(tr, f, o)
		}
		if f.Error != api.OK {
			continue
		}
		works++
		named := map[string]bool{}
		for i, s := range o.Sections {
			// each section is that of its symbol
			at := slices.IndexFunc(o.Symbols, func(x api.Symbol) bool { return x.Section == i })
			s2, l, _ := Section(tr, u, o.Symbols[at].Name)
			if !equal(s, s2) || !slices.Equal(l, r.Sections[i]) {
				t.Fatal(tr, i, s, s2)
			}
			for _, rel := range s.Relocs {
				named[rel.Symbol] = true
			}
		}
		for i, s := range o.Symbols {
			// heads alone decide the symbols and their modes
			if s.Name != u.Items[i].Name || s.Mode != u.Items[i].Mode || len(o.Symbols) != len(u.Items) {
				t.Fatal(tr, o.Symbols)
			}
			// private items have a section exactly if something names them
			if s.Mode == api.Private && (s.Section >= 0) != named[s.Name] || (s.Mode == api.Export || s.Mode == api.Weak) && s.Section < 0 || s.Mode == api.Extern && s.Section >= 0 {
				t.Fatal(tr, s, named)
			}
			if s.Mode == api.Private && s.Section >= 0 {
				private++
			}
			delete(named, s.Name)
		}
		// all relocations name symbols
		if len(named) > 0 || len(r.Sections) != len(o.Sections) {
			t.Fatal(tr, named)
		}
		other += unread(t, w, tr, o, r)
	}
	if works < 1000 || private < 500 || other < 1000 {
		t.Error(works, private, other)
	}
}

// unread changes all lines of a unit that were not read, which changes nothing else, and returns how many they were.
func unread(t *testing.T, w *writer, tr api.Tree, o api.Object, r api.Reading) int {
	t.Helper()
	read := linesOf(r.Heads)
	for _, l := range r.Sections {
		for x := range linesOf(l) {
			read[x] = true
		}
	}
	changed, other := tr, 0
	for _, f := range tr {
		lines, _ := tree.Lines(f.Data)
		for n := range lines {
			if at := (api.Line{Path: f.Path, N: n}); !read[at] {
				changed, _ = tree.Replace(changed, at, w.pick("?", "", "fn t 0", "do 1"))
				other++
			}
		}
	}
	o2, r2, f := Unit(changed, "a/m", nil)
	same := slices.Equal(o.Symbols, o2.Symbols) && slices.EqualFunc(o.Sections, o2.Sections, equal) && slices.Equal(r.Heads, r2.Heads) && slices.Equal(r.Files, r2.Files)
	if f.Error != api.OK || !same || !slices.EqualFunc(r.Sections, r2.Sections, slices.Equal[api.Lines]) {
		t.Fatal(tr, changed, f, o, o2)
	}
	return other
}

// P9.3: no path and no line number is part of an object.
func TestOtherPlaces(t *testing.T) {
	w := &writer{Rand: rand.New(rand.NewSource(4))}
	for range 1000 {
		tr := w.unit()
		o, _, f := Unit(tr, "a/m", nil)
		if f.Error != api.OK {
			continue
		}
		// in another package, with notes in front
		moved := api.Tree{{Path: "b/k", Data: "note 2\n?\n?\n" + tr[0].Data}, {Path: "b/other.src", Data: "\n\n\n" + tr[1].Data}}
		o2, _, f := Unit(moved, "b/other.src", []string{"flag"})
		if f.Error != api.OK || !slices.Equal(o.Symbols, o2.Symbols) || !slices.EqualFunc(o.Sections, o2.Sections, equal) {
			t.Fatal(tr, f, o, o2)
		}
	}
}

// P1: whatever the trees and units are, there is a result or a fault, and never both; arguments are not changed.
func TestAnyArguments(t *testing.T) {
	w := &writer{Rand: rand.New(rand.NewSource(5))}
	number := func() int { return []int{-1 << 63, -1, 0, 1, 2, 3, 1 << 32, 1<<63 - 1}[w.Intn(8)] }
	path := func() string { return w.pick("a/m", "a/m", "", "a/x", "?") }
	for range 20000 {
		var tr api.Tree
		for range w.Intn(4) {
			tr = append(tr, api.File{Path: path(), Data: w.pick("", "do f\ndo x", "let x = 1\nset x = 2\n1", "if 1 1\nreturn x", "?", strings.Repeat("\n", api.MaxLines), "fn f 0", "f,1\nm")})
		}
		var u api.Unit
		for range w.Intn(4) {
			u.Items = append(u.Items, api.Item{Name: w.pick("f", "f", "x", "", "?", "let"), Kind: w.Intn(6) - 1, Mode: w.Intn(6) - 1, Params: slices.Repeat([]string{w.pick("x", "y", "", "?")}, w.Intn(3)*w.Intn(200)), Body: api.Span{Path: path(), From: number(), To: number()}})
			if w.Intn(2) == 0 {
				u.Items[len(u.Items)-1].Body = api.Span{Path: path(), From: 0, To: w.Intn(3)}
			}
		}
		if w.Intn(2) == 0 {
			u.Macros = append(u.Macros, api.Macro{Name: "m", Body: api.Span{Path: path(), From: number(), To: number()}})
		}
		for _, name := range []string{"f", "x", "", "?"} {
			s, l, f := Section(tr, u, name)
			if f.Error != api.OK && (!isZero(s, l) || f.Package != -1 || f.Step != -1) || f.Error == api.OK && (f != api.Fault{} || s.Kind == 0) {
				t.Fatal(tr, u, f, s, l)
			}
		}
		o, r, f := Unit(tr, path(), slices.Repeat([]string{w.pick("x", "?")}, w.Intn(3)))
		if f.Error != api.OK && (len(o.Symbols)+len(o.Sections)+len(r.Heads)+len(r.Files)+len(r.Sections) != 0 || f.Package != -1 || f.Step != -1) || f.Error == api.OK && f != (api.Fault{}) {
			t.Fatal(tr, f, o, r)
		}
	}
}

// P9.1: a section shares no memory with the unit, and two results share none.
func TestResultsAreNew(t *testing.T) {
	tr := fileOf("fn t f x", "do f;do g + d;do two")
	u := scanned(t, tr)
	params := slices.Clone(u.Items[len(u.Items)-1].Params)
	s, l, _ := Section(tr, u, "t")
	s.Relocs[0], l[0] = api.Reloc{}, api.Span{}
	u.Heads[0] = api.Span{}
	s2, l2, f := Section(tr, u, "t")
	if f.Error != api.OK || s2.Relocs[0].Symbol != "g" || l2[0].Path != "a/m" || !slices.Equal(params, u.Items[len(u.Items)-1].Params) {
		t.Error(f, s2, l2)
	}
	if item, _ := source.Find(u, "t"); !slices.Equal(item.Params, params) {
		t.Error(item)
	}
}

// P9.1: a long function, each line of which reads the bodies of many macros, is compiled in a moment.
func TestLongest(t *testing.T) {
	var lines, names []string
	for i := range 120 {
		name := "m" + strconv.Itoa(i)
		lines, names = append(lines, "define "+name+" 1", ""), append(names, name)
	}
	tr := files("a/k", strings.Join(lines, ";"), "a/m", "include k;define all 1;"+strings.Join(names, " ")+" do x - f(x, x);fn f a b 0;export fn t x 500"+strings.Repeat(";all", 500))
	begin := time.Now()
	o, r, f := Unit(tr, "a/m", nil)
	if f.Error != api.OK || len(o.Sections) != 2 || len(o.Sections[0].Relocs) != 500 || len(r.Sections[0]) != len(names)+2 {
		t.Error(f, len(o.Sections), len(r.Sections))
	}
	if d := time.Since(begin); d > 10*time.Second {
		t.Error(d)
	}
}
