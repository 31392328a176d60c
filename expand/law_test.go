package expand

import (
	"maps"
	"math/rand"
	"slices"
	"strings"
	"testing"
	"time"

	"licit/api"
	"licit/token"
	"licit/tree"
)

// hiding is a token with the names that are hidden in it.
type hiding struct {
	api.Token
	names map[string]bool
}

// hides returns a token in which further names are hidden.
func (h hiding) hides(more map[string]bool) hiding {
	h.names = maps.Clone(h.names)
	maps.Copy(h.names, more)
	return h
}

// expanded expands tokens by the words of the definition: as long as there is a token that can be expanded, the first one is. It returns the names of the macros that were expanded as well, and knows no bounds but for that of expansions.
func expanded(t api.Tree, u api.Unit, l []hiding, n int) ([]hiding, []string, api.Errno) {
	isMeant := func(h hiding) func(m api.Macro) bool {
		return func(m api.Macro) bool { return h.Kind == api.TokenName && !h.names[h.Text] && m.Name == h.Text }
	}
	at := slices.IndexFunc(l, func(h hiding) bool { return slices.ContainsFunc(u.Macros, isMeant(h)) })
	if at < 0 {
		return l, nil, api.OK
	}
	if n == 0 {
		return nil, nil, api.ErrTooLarge
	}
	m := u.Macros[slices.IndexFunc(u.Macros, isMeant(l[at]))]
	end := at + 1
	var args [][]hiding
	if len(m.Params) > 0 {
		var e api.Errno
		if end, e = closing(l, at+1); e != api.OK {
			return nil, nil, e
		}
		args = divided(l[at+2 : end-1])
		if slices.ContainsFunc(args, func(a []hiding) bool { return len(a) == 0 }) {
			return nil, nil, api.ErrSyntax
		}
		if len(args) != len(m.Params) {
			return nil, nil, api.ErrMismatch
		}
	}
	body, e := Body(t, m)
	if e != api.OK {
		return nil, nil, e
	}
	var now []hiding
	for _, x := range body {
		one := []hiding{{Token: x, names: map[string]bool{}}}
		if i := slices.Index(m.Params, x.Text); i >= 0 {
			one = args[i]
		}
		for _, h := range one {
			now = append(now, h.hides(map[string]bool{m.Name: true}).hides(l[at].names))
		}
	}
	result, names, e := expanded(t, u, slices.Concat(l[:at], now, l[end:]), n-1)
	return result, append(names, m.Name), e
}

// closing returns the place behind the parenthesis that belongs to one at some place.
func closing(l []hiding, at int) (int, api.Errno) {
	if at == len(l) || l[at].Text != "(" {
		return 0, api.ErrSyntax
	}
	for end := at + 1; end <= len(l); end++ {
		texts := textOf(l[at:end])
		if strings.Count(texts, "(") == strings.Count(texts, ")") {
			return end, api.OK
		}
	}
	return 0, api.ErrSyntax
}

// divided divides tokens at the commas in front of which all parentheses are closed.
func divided(l []hiding) [][]hiding {
	for i, h := range l {
		texts := textOf(l[:i])
		if h.Text == "," && strings.Count(texts, "(") == strings.Count(texts, ")") {
			return append([][]hiding{l[:i]}, divided(l[i+1:])...)
		}
	}
	return [][]hiding{l}
}

// textOf returns the texts of tokens.
func textOf(l []hiding) string {
	text := ""
	for _, h := range l {
		text += h.Text
	}
	return text
}

// model expands a line by the definition, with all bounds that a short line can reach.
func model(t api.Tree, u api.Unit, l []api.Token) ([]api.Token, []string, api.Errno) {
	var all []hiding
	for _, x := range l {
		all = append(all, hiding{Token: x, names: map[string]bool{}})
	}
	result, names, e := expanded(t, u, all, api.MaxTokens)
	var plain []api.Token
	for _, h := range result {
		plain = append(plain, h.Token)
	}
	return plain, names, e
}

// randomTokens returns up to n random tokens, in which parentheses often fit.
func randomTokens(r *rand.Rand, n int) string {
	parts := []string{"a", "b", "f ( $ )", "g ( $ , $ )", "f ( $ )", "g ( $ , $ )", "( $ )", "x", "y", "1", "+", "f", "g", "f (", ")", ",", "h"}
	text := ""
	for range r.Intn(n + 1) {
		text += parts[r.Intn(len(parts))] + " "
	}
	for strings.Contains(text, "$") {
		part := "$"
		if len(text) > 60 {
			part = "x"
		}
		part = strings.Replace(parts[r.Intn(len(parts))], "$", part, -1)
		text = strings.Replace(text, "$", part, 1)
	}
	return text
}

// randomUnit returns random macros with few names.
func randomUnit(r *rand.Rand) (api.Tree, api.Unit) {
	var macros []string
	for _, head := range []string{"a", "b", "f x", "g x y", "h"} {
		if r.Intn(5) == 0 {
			continue
		}
		macros = append(macros, head+":"+randomTokens(r, 3))
		if r.Intn(6) == 0 {
			macros[len(macros)-1] += "|" + randomTokens(r, 1)
		}
	}
	r.Shuffle(len(macros), func(i, j int) { macros[i], macros[j] = macros[j], macros[i] })
	return unit(macros...)
}

// P7.2: random lines with random macros have the tokens, the lines that were read, and the error of the definition; a macro that was read is one that was expanded.
func TestLineByDefinition(t *testing.T) {
	r := rand.New(rand.NewSource(1))
	counts := map[api.Errno]int{}
	for range 40000 {
		tr, u := randomUnit(r)
		line := tokens(randomTokens(r, 4))
		l, read, e := Line(tr, u, line)
		want, names, e2 := model(tr, u, line)
		if len(want) > api.MaxTokens {
			continue
		}
		if e == api.ErrTooLarge && e2 != e {
			// too many tokens on the way
			counts[e]++
			continue
		}
		if e != e2 || !slices.Equal(l, want) {
			t.Fatal(line, u, tr, e, e2, l, want)
		}
		counts[e]++
		if e == api.OK && !slices.Equal(allLines(read), bodies(u, names)) {
			t.Fatal(line, u, read, names)
		}
	}
	for _, e := range []api.Errno{api.OK, api.ErrSyntax, api.ErrMismatch} {
		if counts[e] < 500 {
			t.Error(e, counts[e])
		}
	}
}

// allLines returns the lines of a set, in order.
func allLines(set api.Lines) []api.Line {
	var lines []api.Line
	for _, s := range set {
		for n := s.From; n < s.To; n++ {
			lines = append(lines, api.Line{Path: s.Path, N: n})
		}
	}
	return lines
}

// bodies returns the lines of the bodies of macros that are named, in order.
func bodies(u api.Unit, names []string) []api.Line {
	var lines []api.Line
	for _, m := range u.Macros {
		if slices.Contains(names, m.Name) {
			lines = append(lines, allLines(api.Lines{m.Body})...)
		}
	}
	slices.SortFunc(lines, func(a, b api.Line) int { return a.N - b.N })
	return slices.Compact(lines)
}

// P7.3: what is left are valid tokens; the lines that were read are a set of lines of the tree; other lines do not matter.
func TestLinesThatWereNotRead(t *testing.T) {
	r := rand.New(rand.NewSource(2))
	other := 0
	for range 5000 {
		tr, u := randomUnit(r)
		line := tokens(randomTokens(r, 3))
		l, read, e := Line(tr, u, line)
		if e != api.OK {
			continue
		}
		if _, e := token.Print(l); e != api.OK {
			t.Fatal(line, u, l)
		}
		for i, s := range read {
			if s.From >= s.To || i > 0 && read[i-1].To >= s.From {
				t.Fatal(line, u, read)
			}
		}
		lines, _ := tree.Lines(tr[0].Data)
		for n := range lines {
			if slices.Contains(allLines(read), api.Line{Path: "a/m", N: n}) {
				continue
			}
			changed, _ := tree.Replace(tr, api.Line{Path: "a/m", N: n}, []string{"?", "sum ( 1", "", "a f ( 1 )"}[r.Intn(4)])
			l2, read2, e := Line(changed, u, line)
			if e != api.OK || !slices.Equal(l, l2) || !slices.Equal(read, read2) {
				t.Fatal(line, u, tr, n, e, l, l2)
			}
			other++
		}
	}
	if other < 1000 {
		t.Error(other)
	}
}

// P7.3: tokens without names of macros stay the same.
func TestWithoutMacros(t *testing.T) {
	r := rand.New(rand.NewSource(3))
	for range 5000 {
		tr, u := randomUnit(r)
		for i, m := range u.Macros {
			u.Macros[i].Name = "m_" + m.Name
		}
		line := tokens(randomTokens(r, 20))
		if len(line) > api.MaxTokens {
			continue
		}
		before := slices.Clone(line)
		l, read, e := Line(tr, u, line)
		if e != api.OK || !slices.Equal(l, line) || !slices.Equal(line, before) || len(read) != 0 {
			t.Fatal(line, u, e, l, read)
		}
		if len(l) > 0 {
			l[0] = api.Token{}
			if !slices.Equal(line, before) {
				t.Fatal(line)
			}
		}
	}
}

// P7.3: expanding two lists of tokens one behind the other is expanding both of them.
func TestTwoLists(t *testing.T) {
	r := rand.New(rand.NewSource(4))
	both := 0
	for range 20000 {
		tr, u := randomUnit(r)
		first, second := tokens(randomTokens(r, 2)), tokens(randomTokens(r, 2))
		l, read, e := Line(tr, u, first)
		l2, read2, e2 := Line(tr, u, second)
		all, readAll, e3 := Line(tr, u, slices.Concat(first, second))
		if e != api.OK || e2 != api.OK || e3 == api.ErrTooLarge {
			continue
		}
		lines := append(allLines(read), allLines(read2)...)
		slices.SortFunc(lines, func(a, b api.Line) int { return a.N - b.N })
		if e3 != api.OK || !slices.Equal(all, slices.Concat(l, l2)) || !slices.Equal(allLines(readAll), slices.Compact(lines)) {
			t.Fatal(first, second, u, e3, all, l, l2)
		}
		both++
	}
	if both < 2000 {
		t.Error(both)
	}
}

// P7.3: a macro is never expanded within its own expansion, so that what expands into itself ends.
func TestNothingWithinItself(t *testing.T) {
	for _, x := range []struct {
		macros     []string
		line, want string
	}{
		{[]string{"a:a a"}, "a", "a a"},
		{[]string{"f x:f ( x ) f ( x )"}, "f ( 1 )", "f ( 1 ) f ( 1 )"},
		{[]string{"f x:g ( x )", "g x:f ( x )"}, "f ( 1 ) g ( 1 )", "f ( 1 ) g ( 1 )"},
		{[]string{"a:b c", "b:c a", "c:a b"}, "a", "a b a a c a"},
	} {
		tr, u := unit(x.macros...)
		l, _, e := Line(tr, u, tokens(x.line))
		if text, _ := token.Print(l); e != api.OK || text != x.want {
			t.Error(x.macros, e, text)
		}
	}
}

// P7.2: whatever the units and tokens are, there is a result or an error, and never both.
func TestAnyArguments(t *testing.T) {
	r := rand.New(rand.NewSource(5))
	pick := func(list ...string) string { return list[r.Intn(len(list))] }
	number := func() int { return []int{-1 << 63, -1, 0, 1, 2, 3, 1 << 32, 1<<63 - 1}[r.Intn(8)] }
	for range 20000 {
		var tr api.Tree
		for range r.Intn(4) {
			tr = append(tr, api.File{Path: pick("a/m", "", "a/x", "?"), Data: pick("", "a\nb", "f (\n1\n)", "?\n\nx", strings.Repeat("\n", api.MaxLines), strings.Repeat("a ", api.MaxTokens+1))})
		}
		var u api.Unit
		for range r.Intn(4) {
			u.Macros = append(u.Macros, api.Macro{Name: pick("a", "f", "", "?", "let"), Params: slices.Repeat([]string{pick("x", "", "a")}, r.Intn(3)), Body: api.Span{Path: pick("a/m", "", "a/x", "?"), From: number(), To: number()}})
		}
		var l []api.Token
		for range r.Intn(8) {
			l = append(l, api.Token{Kind: r.Intn(20) / 6, Text: pick("a", "f", "let", "1", "(", ")", ",", "?", "")})
			if r.Intn(8) > 0 {
				l[len(l)-1] = tokens(pick("a", "f", "let", "(", ")", "1"))[0]
			}
		}
		if left, read, e := Line(tr, u, l); e != api.OK && len(left)+len(read) != 0 {
			t.Fatal(tr, u, l, e)
		}
		for _, m := range u.Macros {
			if body, e := Body(tr, m); e != api.OK && len(body) != 0 {
				t.Fatal(tr, m, e)
			}
		}
	}
}

// P7.2: arguments in which many names are hidden, and that occur very often, are expanded in a moment.
func TestManyHiddenNames(t *testing.T) {
	var macros []string
	for i := range api.MaxTokens {
		macros = append(macros, long(i)+" x:"+long(i+1)+" ( x )")
	}
	last := long(api.MaxTokens)
	tr, u := unit(macros...)
	begin := time.Now()
	line := tokens(long(0) + " ( " + strings.Repeat("y ", api.MaxTokens-3) + ")")
	l, read, e := Line(tr, u, line)
	if e != api.OK || l[0].Text != last || len(l) != len(line) || len(allLines(read)) != api.MaxTokens {
		t.Error(e, len(l), len(read))
	}
	if d := time.Since(begin); d > 5*time.Second {
		t.Error(d)
	}
}

// long returns the name of a macro with a number.
func long(n int) string { return "m" + strings.Repeat("a", n/16) + "_" + string(rune('a'+n%16)) }
