package recipe

import (
	"fmt"
	"math/rand"
	"regexp"
	"slices"
	"strings"
	"testing"

	"licit/api"
	"licit/source"
	"licit/token"
	"licit/tree"
)

// forms are the rows of the table, where x stands for any word but separators.
var forms = map[int]*regexp.Regexp{
	api.StepCompile: regexp.MustCompile(`^compile x to x( with x( x)*)?$`),
	api.StepArchive: regexp.MustCompile(`^archive x( x)* to x$`),
	api.StepShare:   regexp.MustCompile(`^share x( x)* to x$`),
	api.StepLink:    regexp.MustCompile(`^link x x( x)*( using x( x)*)? to x$`),
	api.StepRun:     regexp.MustCompile(`^run x( using x( x)*)? on x to x$`),
	api.StepPatch:   regexp.MustCompile(`^patch x with x to x$`),
	api.StepCopy:    regexp.MustCompile(`^copy x to x$`),
	api.StepInstall: regexp.MustCompile(`^install x as x$`),
}

var separators = list{"to", "with", "using", "on", "as"}

// behind returns the words behind a separator, up to the next one; for an empty one those behind the first word.
func behind(words list, separator string) list {
	at := 0
	if separator != "" {
		at = slices.Index(words, separator)
	}
	if at < 0 {
		return nil
	}
	rest := words[at+1:]
	if end := slices.IndexFunc(rest, func(w string) bool { return slices.Contains(separators, w) }); end >= 0 {
		rest = rest[:end]
	}
	return rest
}

// reading returns the step of some words by the words of the definition.
func reading(words list) (api.Step, api.Errno) {
	shape := slices.Clone(words)
	for i, w := range shape {
		if i > 0 && !slices.Contains(separators, w) {
			shape[i] = "x"
		}
	}
	s := api.Step{}
	for kind, form := range forms {
		if !slices.Contains(words, "") && form.MatchString(strings.Join(shape, " ")) {
			s.Kind = kind
		}
	}
	if s.Kind == 0 {
		return api.Step{}, api.ErrSyntax
	}
	first := behind(words, "")
	switch s.Kind {
	case api.StepCompile:
		s.In, s.Words = first, behind(words, "with")
	case api.StepLink:
		s.Words, s.In, s.Using = first[:1], first[1:], behind(words, "using")
	case api.StepRun:
		s.In, s.Using = slices.Concat(first, behind(words, "on")), behind(words, "using")
	case api.StepPatch:
		s.In = slices.Concat(first, behind(words, "with"))
	default:
		s.In = first
	}
	s.Out = behind(words, map[bool]string{true: "as", false: "to"}[s.Kind == api.StepInstall])[0]
	for _, w := range slices.Concat(s.In, s.Using) {
		// the line of an include has a reference, too
		if _, e := source.Parse("include " + w); e != api.OK {
			return api.Step{}, api.ErrName
		}
	}
	for _, w := range s.Words {
		if !token.Name(w) {
			return api.Step{}, api.ErrName
		}
	}
	if tree.Path(s.Out) != api.OK {
		return api.Step{}, api.ErrName
	}
	if len(slices.Compact(slices.Sorted(slices.Values(s.Words)))) < len(s.Words) {
		return api.Step{}, api.ErrTwice
	}
	return s, api.OK
}

// P14.1: all short lists of some words lead to the step, or the error, that the definition says.
func TestParseByDefinition(t *testing.T) {
	for _, x := range []struct {
		words, more list
		n           int
	}{
		{list{"compile"}, list{"a", "b", "to", "with", "X"}, 7},
		{list{"compile", "a", "to", "b"}, list{"x", "with", "to", "", "let", "on"}, 5},
		{list{"archive"}, list{"a", "@b/c", "to", "as", "B"}, 6},
		{list{"share"}, list{"a", "@b", "to", "using", ""}, 6},
		{list{"link"}, list{"a", "b.o", "to", "using"}, 8},
		{list{"link", "f", "a"}, list{"b", "to", "using", "on", "@c/d"}, 6},
		{list{"run"}, list{"a", "on", "to", "using"}, 8},
		{list{"run", "a", "using"}, list{"b", "on", "to", "with", "using", "@c"}, 6},
		{list{"patch"}, list{"a", "with", "to", "on", "@b/c"}, 6},
		{list{"copy"}, list{"a", "to", "as", "@b/c", "", "B"}, 5},
		{list{"install"}, list{"a", "to", "as", "@b/c", "with"}, 5},
		{list{}, list{"compile", "archive", "share", "link", "run", "patch", "copy", "install", "to", "on", "with", "as", "using", "a"}, 4},
	} {
		found, steps := map[api.Errno]int{}, 0
		var extend func(words list)
		extend = func(words list) {
			line := strings.Join(words, " ")
			want, e := reading(words)
			l, n, f := Parse(line)
			switch {
			case line == "":
				want, e = api.Step{}, api.OK
			case f != e, e == api.OK && (n != -1 || !equal(l, []api.Step{want})), e != api.OK && (n != 0 || len(l) != 0):
				t.Fatalf("%q %d %v %+v, not %v %+v", line, n, f, l, e, want)
			case e == api.OK:
				steps++
				if s, e := Print(l); e != api.OK || s != line || Check(want) != api.OK {
					t.Fatalf("%q %q %v", line, s, e)
				}
			}
			found[e]++
			if len(words) < len(x.words)+x.n {
				for _, w := range x.more {
					extend(append(words[:len(words):len(words)], w))
				}
			}
		}
		extend(x.words)
		if steps == 0 || found[api.ErrSyntax] == 0 {
			t.Error(x, steps, found)
		}
	}
}

// P14.1, P14.2: short lists of words as In, Using and Words are those of a step exactly if some line leads to it.
func TestCheckByDefinition(t *testing.T) {
	parts := list{"a", "b", "@a/b", "x", "to", ""}
	var lists []list
	for _, x := range append(parts, "-") {
		for _, y := range append(parts, "-") {
			for _, z := range append(parts, "-") {
				l := list{x, y, z}
				// a list that ends earlier, once
				if n := slices.Index(l, "-"); n < 0 || strings.Join(l[n:], "") == "---"[n:] {
					lists = append(lists, slices.DeleteFunc(l, func(w string) bool { return w == "-" }))
				}
			}
		}
	}
	r := rand.New(rand.NewSource(1))
	valid := map[int]int{}
	for range 400000 {
		short := func() list {
			if r.Intn(2) == 0 {
				return nil
			}
			return lists[r.Intn(len(lists))]
		}
		s := api.Step{Kind: 1 + r.Intn(8), In: lists[r.Intn(len(lists))], Using: short(), Words: short(), Out: parts[r.Intn(len(parts))]}
		// all lines that could be the one of this step
		isStep := false
		for _, words := range candidates(s) {
			back, e := reading(words)
			isStep = isStep || e == api.OK && equal([]api.Step{back}, []api.Step{s})
		}
		if (Check(s) == api.OK) != isStep {
			t.Fatalf("%q %v", fmt.Sprintf("%+v", s), isStep)
		}
		if isStep {
			valid[s.Kind]++
		}
	}
	for kind := api.StepCompile; kind <= api.StepInstall; kind++ {
		if valid[kind] < 20 {
			t.Error(valid)
		}
	}
}

// candidates returns lists of words that have all words of a step, in the order of each row of its kind.
func candidates(s api.Step) []list {
	in, out := s.In, list{"to", s.Out}
	var first, rest list
	if len(in) > 0 {
		first, rest = in[:1], in[1:]
	}
	switch s.Kind {
	case api.StepCompile:
		return []list{slices.Concat(list{"compile"}, in, out), slices.Concat(list{"compile"}, in, out, list{"with"}, s.Words)}
	case api.StepArchive:
		return []list{slices.Concat(list{"archive"}, in, out)}
	case api.StepShare:
		return []list{slices.Concat(list{"share"}, in, out)}
	case api.StepLink:
		return []list{slices.Concat(list{"link"}, s.Words, in, out), slices.Concat(list{"link"}, s.Words, in, list{"using"}, s.Using, out)}
	case api.StepRun:
		return []list{slices.Concat(list{"run"}, first, list{"on"}, rest, out), slices.Concat(list{"run"}, first, list{"using"}, s.Using, list{"on"}, rest, out)}
	case api.StepPatch:
		return []list{slices.Concat(list{"patch"}, first, list{"with"}, rest, out)}
	case api.StepCopy:
		return []list{slices.Concat(list{"copy"}, in, out)}
	}
	return []list{slices.Concat(list{"install"}, in, list{"as", s.Out})}
}

// random returns random words of a step.
func random(r *rand.Rand) list {
	some := func(n int) list {
		var l list
		for range n {
			l = append(l, []string{"a", "b.o", "c/d", "@e/f", "@g/h-i/j", "main", "copy"}[r.Intn(7)])
		}
		return l
	}
	out := list{"to", []string{"x", "y/z", "link"}[r.Intn(3)]}
	switch r.Intn(11) {
	case 0:
		return slices.Concat(list{"compile"}, some(1), out)
	case 1:
		flags := list{"x", "y", "big", "_1", "fast"}
		r.Shuffle(len(flags), func(i, k int) { flags[i], flags[k] = flags[k], flags[i] })
		return slices.Concat(list{"compile"}, some(1), out, list{"with"}, flags[:1+r.Intn(5)])
	case 2, 3:
		return slices.Concat(list{[]string{"archive", "share"}[r.Intn(2)]}, some(1+r.Intn(4)), out)
	case 4:
		return slices.Concat(list{"link", "main"}, some(1+r.Intn(4)), out)
	case 5:
		return slices.Concat(list{"link", "f"}, some(1+r.Intn(4)), list{"using"}, some(1+r.Intn(3)), out)
	case 6:
		return slices.Concat(list{"run"}, some(1), list{"on"}, some(1), out)
	case 7:
		return slices.Concat(list{"run"}, some(1), list{"using"}, some(1+r.Intn(4)), list{"on"}, some(1), out)
	case 8:
		return slices.Concat(list{"patch"}, some(1), list{"with"}, some(1), out)
	case 9:
		return slices.Concat(list{"copy"}, some(1), out)
	}
	return slices.Concat(list{"install"}, some(1), list{"as", out[1]})
}

// text returns a random recipe with up to n steps.
func text(r *rand.Rand, n int) string {
	var lines list
	for range r.Intn(n + 1) {
		for range r.Intn(3) * r.Intn(2) {
			lines = append(lines, "")
		}
		lines = append(lines, strings.Join(random(r), " "))
	}
	return strings.Join(lines, "\n") + strings.Repeat("\n", r.Intn(3))
}

// P14.3: Parse undoes Print; what was parsed is printed as it was, but for empty lines at the end; the steps of two texts one behind the other are those of both.
func TestTexts(t *testing.T) {
	r := rand.New(rand.NewSource(2))
	for range 5000 {
		a, b := text(r, 20), text(r, 20)
		l, m := parsed(t, a), parsed(t, b)
		printed, e := Print(l)
		if e != api.OK || printed != strings.TrimRight(a, "\n") && len(l) > 0 || len(l) == 0 && printed != "" {
			t.Fatalf("%q %q %v", a, printed, e)
		}
		if !equal(parsed(t, printed), l) {
			t.Fatalf("%q %q", a, printed)
		}
		for i := range m {
			m[i].Line += strings.Count(a, "\n") + 1
		}
		if both := parsed(t, a+"\n"+b); !equal(both, slices.Concat(l, m)) {
			t.Fatalf("%q %q %v", a, b, both)
		}
	}
}

// P14.1, P14.3: the number of an error is that of the first line that has one, and lines behind it do not matter.
func TestFirstError(t *testing.T) {
	r := rand.New(rand.NewSource(3))
	wrong := map[string]api.Errno{"copy": api.ErrSyntax, "copy A to b": api.ErrName, "compile a to b with x x": api.ErrTwice}
	for range 3000 {
		a, b := text(r, 20), text(r, 20)
		for line, want := range wrong {
			l, n, e := Parse(a + "\n" + line + "\n" + b + "\n?")
			if len(l) != 0 || n != strings.Count(a, "\n")+1 || e != want {
				t.Fatalf("%q %q %d %v", a, line, n, e)
			}
		}
	}
}
