package lineset

import (
	"cmp"
	"fmt"
	"maps"
	"math/rand"
	"regexp"
	"slices"
	"strings"
	"testing"

	"licit/api"
)

// plain is a set of lines by the definition: whether each line is in it.
type plain map[api.Line]bool

// lines returns the lines of a set, by path and number.
func (p plain) lines() []api.Line {
	return slices.SortedFunc(maps.Keys(p), func(x, y api.Line) int {
		return cmp.Or(cmp.Compare(x.Path, y.Path), cmp.Compare(x.N, y.N))
	})
}

// spans returns the longest runs of lines of a set.
func (p plain) spans() api.Lines {
	var l api.Lines
	for _, x := range p.lines() {
		if p[at(x.Path, x.N-1)] {
			continue
		}
		to := x.N
		for p[at(x.Path, to)] {
			to++
		}
		l = append(l, sp(x.Path, x.N, to))
	}
	return l
}

// chosen returns the lines of two sets for which a function holds.
func chosen(a, b plain, f func(inA, inB bool) bool) plain {
	c := plain{}
	for _, p := range []plain{a, b} {
		for x := range p {
			if f(a[x], b[x]) {
				c[x] = true
			}
		}
	}
	return c
}

// somePlain returns a set at random, with the lines at both ends of a file among others.
func somePlain(r *rand.Rand) plain {
	p := plain{}
	paths := []string{"a", "a-b", "a/b", "a/b/c", "a/bc", "a0", "b"}
	for range r.Intn(8) {
		path := paths[r.Intn(1+r.Intn(len(paths)))]
		from := r.Intn(12)
		if r.Intn(4) == 0 {
			from = api.MaxLines - 1 - r.Intn(6)
		}
		for n := from; n <= from+r.Intn(5) && n < api.MaxLines; n++ {
			p[at(path, n)] = true
		}
	}
	return p
}

// P16.1 to P16.5: sets and operations are those of the definition, line by line.
func TestByDefinition(t *testing.T) {
	r := rand.New(rand.NewSource(1))
	for range 4000 {
		a, b := somePlain(r), somePlain(r)
		lines := a.lines()
		lines = append(lines, lines[:r.Intn(len(lines)+1)]...)
		r.Shuffle(len(lines), func(i, j int) { lines[i], lines[j] = lines[j], lines[i] })
		set, e := Of(lines)
		if e != api.OK || !Valid(set) || !slices.Equal(set, a.spans()) || !slices.Equal(List(set), a.lines()) || Count(set) != len(a) {
			t.Fatal(lines, set, e)
		}
		other := b.spans()
		for _, x := range []struct {
			do   operation
			f    func(inA, inB bool) bool
			name string
		}{
			{Union, func(inA, inB bool) bool { return inA || inB }, "union"},
			{Meet, func(inA, inB bool) bool { return inA && inB }, "meet"},
			{Minus, func(inA, inB bool) bool { return inA && !inB }, "minus"},
		} {
			if l, e := x.do(set, other); e != api.OK || !slices.Equal(l, chosen(a, b, x.f).spans()) {
				t.Fatal(x.name, set, other, l, e)
			}
		}
		for x := range b {
			if Has(set, x) != a[x] || !Has(other, x) {
				t.Fatal(set, other, x)
			}
		}
		for _, dir := range []string{"a", "a/b", "a-b", "b", "c"} {
			want := chosen(a, nil, func(in, _ bool) bool { return in })
			maps.DeleteFunc(want, func(x api.Line, _ bool) bool { return !strings.HasPrefix(x.Path, dir+"/") })
			if l, e := Under(set, dir); e != api.OK || !slices.Equal(l, want.spans()) {
				t.Fatal(dir, set, l, e)
			}
		}
	}
}

// P16.5: the laws of sets, counts, and texts that lead back.
func TestLaws(t *testing.T) {
	r := rand.New(rand.NewSource(2))
	do := func(f operation, a, b api.Lines) api.Lines {
		l, e := f(a, b)
		if e != api.OK || !Valid(l) {
			t.Fatal(a, b, l, e)
		}
		return l
	}
	for range 2000 {
		a, b, c := somePlain(r).spans(), somePlain(r).spans(), somePlain(r).spans()
		union, meet, minus := do(Union, a, b), do(Meet, a, b), do(Minus, a, b)
		if Count(union)+Count(meet) != Count(a)+Count(b) || Count(minus)+Count(meet) != Count(a) {
			t.Fatal(a, b)
		}
		for i, x := range [][2]api.Lines{
			{union, do(Union, b, a)}, {meet, do(Meet, b, a)},
			{do(Union, union, c), do(Union, a, do(Union, b, c))}, {do(Meet, meet, c), do(Meet, a, do(Meet, b, c))},
			{do(Meet, union, c), do(Union, do(Meet, a, c), do(Meet, b, c))}, {do(Union, meet, c), do(Meet, do(Union, a, c), do(Union, b, c))},
			{do(Union, minus, meet), a}, {do(Minus, minus, b), minus}, {do(Meet, minus, b), nil}, {do(Minus, a, do(Union, b, c)), do(Minus, minus, c)},
			{do(Union, a, a), a}, {do(Meet, a, a), a}, {do(Minus, a, a), nil}, {do(Union, a, nil), a}, {do(Minus, a, nil), a}, {do(Meet, a, nil), nil},
			{do(Meet, a, union), a}, {do(Union, a, meet), a},
		} {
			if !slices.Equal(x[0], x[1]) {
				t.Fatal(i, a, b, c, x)
			}
		}
		text, e := Print(a)
		if l, n, f := Parse(text); e != api.OK || f != api.OK || n != -1 || !slices.Equal(l, a) {
			t.Fatal(a, text, l, n)
		}
		again, e := Of(List(a))
		if e != api.OK || !slices.Equal(again, a) {
			t.Fatal(a, again)
		}
	}
}

// form is what the definition says of the parts of a line of a text.
var form = regexp.MustCompile(`^([^ \n]*) (0|[1-9][0-9]{0,3}) (0|[1-9][0-9]{0,3})$`)

// P16.4, P16.5: edited texts lead to a set exactly if they are the text of one; otherwise the lines in front of the wrong one are those of a set.
func TestEditedTexts(t *testing.T) {
	r := rand.New(rand.NewSource(3))
	found := map[api.Errno]int{}
	for range 20000 {
		text, _ := Print(somePlain(r).spans())
		bytes := []byte(text)
		for range r.Intn(3) {
			at := r.Intn(len(bytes) + 1)
			add := []byte{" 0123456789ab/A-\n"[r.Intn(17)]}
			bytes = slices.Replace(bytes, at, min(len(bytes), at+r.Intn(2)), add[:r.Intn(2)]...)
		}
		text = string(bytes)
		l, n, e := Parse(text)
		found[e]++
		if e == api.OK {
			if s, e := Print(l); e != api.OK || s != text || n != -1 || !Valid(l) {
				t.Fatalf("%q %q %v %d", text, s, l, n)
			}
			continue
		}
		lines := strings.SplitAfter(text, "\n")
		before, m, f := Parse(strings.Join(lines[:n], ""))
		if l != nil || m != -1 || f != api.OK {
			t.Fatalf("%q %d %v", text, n, e)
		}
		parts := form.FindStringSubmatch(strings.TrimSuffix(lines[n], "\n"))
		if (parts == nil || !strings.HasSuffix(lines[n], "\n")) != (e == api.ErrSyntax) {
			t.Fatalf("%q %d %v", text, n, e)
		}
		if e == api.ErrSyntax {
			continue
		}
		var s api.Span
		fmt.Sscanf(strings.Replace(lines[n], parts[1], "path", 1), "path %d %d", &s.From, &s.To)
		s.Path = parts[1]
		alone := Valid(api.Lines{s})
		if alone != (e == api.ErrOrder) || Valid(append(before, s)) {
			t.Fatalf("%q %d %v", text, n, e)
		}
	}
	for _, e := range []api.Errno{api.OK, api.ErrSyntax, api.ErrName, api.ErrRange, api.ErrOrder} {
		if found[e] < 20 {
			t.Error(e, found[e])
		}
	}
}

// P16.5: different sets have different texts, and different lines: all sets of four lines of two files.
func TestOneToOne(t *testing.T) {
	texts := map[string]bool{}
	lists := map[string]bool{}
	for bits := range 256 {
		p := plain{}
		for i := range 8 {
			if bits>>i&1 == 1 {
				p[at([]string{"a", "b"}[i/4], i%4)] = true
			}
		}
		l, e := Of(p.lines())
		text, f := Print(l)
		if e != api.OK || f != api.OK {
			t.Fatal(e, f)
		}
		texts[text], lists[fmt.Sprint(l)] = true, true
	}
	if len(texts) != 256 || len(lists) != 256 {
		t.Error(len(texts), len(lists))
	}
}
