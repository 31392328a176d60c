package patch

import (
	"slices"
	"strings"
	"testing"

	"licit/api"
)

// someTexts returns all texts of up to most lines, each of which is empty, a or b.
func someTexts(most int) []string {
	var texts []string
	eachText([]string{"", "a", "b"}, most, func(text string) {
		if !slices.Contains(texts, text) {
			texts = append(texts, text)
		}
	})
	return texts
}

// linesOf returns the lines of a text.
func linesOf(data string) []string { return strings.Split(data, "\n") }

// subsequences returns all lists of pairs of common subsequences of two lists, each as i, j, i, j, .. .
func subsequences(a, b []string, i, j int) [][]int {
	all := [][]int{{}}
	for x := i; x < len(a); x++ {
		for y := j; y < len(b); y++ {
			if a[x] == b[y] {
				for _, rest := range subsequences(a, b, x+1, y+1) {
					all = append(all, append([]int{x, y}, rest...))
				}
			}
		}
	}
	return all
}

// keptBy returns the pairs of lines that a patch keeps.
func keptBy(p api.Patch) []int {
	var pairs []int
	i, j := 0, 0
	for _, h := range p.Hunks {
		for range h.N {
			switch h.Kind {
			case api.HunkKeep:
				pairs = append(pairs, i, j)
				i, j = i+1, j+1
			case api.HunkDrop:
				i++
			case api.HunkAdd:
				j++
			}
		}
	}
	return pairs
}

// best returns the least one of the longest lists.
func best(lists [][]int) []int {
	return slices.MinFunc(lists, func(a, b []int) int {
		if len(a) != len(b) {
			return len(b) - len(a)
		}
		return slices.Compare(a, b)
	})
}

// P4.4 and P4.6: the shortest patch is the one that the definition names, for all short texts.
func TestMakeByDefinition(t *testing.T) {
	texts := someTexts(4)
	for _, from := range texts {
		for _, to := range texts {
			p, e := Make(from, to)
			result, e2 := Apply(p, from)
			if e != api.OK || e2 != api.OK || result != to || p.Base != "" {
				t.Fatal(linesOf(from), linesOf(to), e, e2, result)
			}
			want := best(subsequences(linesOf(from), linesOf(to), 0, 0))
			if !slices.Equal(keptBy(p), want) {
				t.Fatal(linesOf(from), linesOf(to), p, want)
			}
			if cost, _ := Cost(p); cost != len(linesOf(from))+len(linesOf(to))-len(want) {
				t.Fatal(linesOf(from), linesOf(to), cost)
			}
		}
	}
}

// P4.4: the same for somewhat longer texts of many repeated lines.
func TestMakeRepeated(t *testing.T) {
	seed := uint32(1)
	text := func() string {
		lines := make([]string, 1+seed>>16%8)
		for i := range lines {
			seed = seed*1664525 + 1013904223
			lines[i] = "abc"[seed>>16%3:][:1]
		}
		return strings.Join(lines, "\n")
	}
	for range 3000 {
		from, to := text(), text()
		p, e := Make(from, to)
		if want := best(subsequences(linesOf(from), linesOf(to), 0, 0)); e != api.OK || !slices.Equal(keptBy(p), want) {
			t.Fatal(linesOf(from), linesOf(to), p, want)
		}
		if result, e := Apply(p, from); e != api.OK || result != to {
			t.Fatal(linesOf(from), linesOf(to), e, result)
		}
	}
}

// P4.4: shortest patches, written out, among them several of the same cost.
func TestMake(t *testing.T) {
	for i, x := range []struct {
		from, to string
		text     string
	}{
		{"a\nb\nc", "b\nc\nd", "drop 1\nkeep 2\nadd 1\nd"},
		{"", "", "keep 1"},
		{"", "a", "drop 1\nadd 1\na"},
		{"a", "", "drop 1\nadd 1\n"},
		{"a", "a\n", "keep 1\nadd 1\n"},
		{"a\nb", "c\nd", "drop 2\nadd 2\nc\nd"},
		// the first line that can be kept is kept, with the first one that is equal to it
		{"a\nb", "b\na", "add 1\nb\nkeep 1\ndrop 1"},
		{"a\na", "a", "keep 1\ndrop 1"},
		{"a", "a\na", "keep 1\nadd 1\na"},
		{"a\nb\na", "b\na\nb", "add 1\nb\nkeep 2\ndrop 1"},
		{"x\na\nb", "b\na\nx", "add 2\nb\na\nkeep 1\ndrop 2"},
		// but not if that costs more
		{"x\na\nb", "a\nb\nx", "drop 1\nkeep 2\nadd 1\nx"},
	} {
		p, e := Make(x.from, x.to)
		if text, _ := Print(p); e != api.OK || text != x.text {
			t.Error(i, e, text)
		}
	}
}

// P4.4: long texts, and texts without a patch.
func TestMakeLong(t *testing.T) {
	a, b := manyLines(api.MaxLines, "a"), manyLines(api.MaxLines, "b")
	full := strings.Repeat("x", api.MaxData)
	for i, x := range []struct {
		from, to string
		text     string
		e        api.Errno
	}{
		{strings.Join(a, "\n"), strings.Join(a, "\n"), "keep 1024", api.OK},
		{strings.Join(a, "\n"), "b", "drop 1024\nadd 1\nb", api.OK},
		{strings.Join(a, "\n"), strings.Join(a[1:], "\n"), "drop 1\nkeep 1023", api.OK},
		{strings.Repeat("\n", 1023), strings.Repeat("\n", 1000), "keep 1001\ndrop 23", api.OK},
		{full, full, "keep 1", api.OK},
		{full, "", "drop 1\nadd 1\n", api.OK},
		{"b", strings.Join(a[:api.MaxLines-2], "\n"), "drop 1\nadd 1022\n" + strings.Join(a[:api.MaxLines-2], "\n"), api.OK},
		{"b", strings.Join(a[1:], "\n"), "", api.ErrTooLarge},
		{strings.Join(a, "\n"), strings.Join(b, "\n"), "", api.ErrTooLarge},
		{"", full, "", api.ErrTooLarge},
		{strings.Repeat("\n", api.MaxLines), "", "", api.ErrTooLarge},
		{"", strings.Repeat("\n", api.MaxLines), "", api.ErrTooLarge},
		{full + "x", full + "x", "", api.ErrTooLarge},
		{full, full + "x", "", api.ErrTooLarge},
	} {
		p, e := Make(x.from, x.to)
		text, _ := Print(p)
		if e != x.e || text != x.text || e != api.OK && !isZero(p) {
			t.Error(i, e, text[:min(len(text), 100)])
		}
	}
}

// patchesOf returns all valid patches of texts of n lines that add at most one line, or two, in each place.
func patchesOf(n int) []api.Patch {
	var all []api.Patch
	var grow func(l []api.Hunk, left int)
	grow = func(l []api.Hunk, left int) {
		if p := hunks(l...); left == 0 && isValid(p) {
			all = append(all, hunks(slices.Clone(l)...))
		}
		last := 0
		if len(l) > 0 {
			last = l[len(l)-1].Kind
		}
		for k := 1; k <= left; k++ {
			if last != api.HunkKeep {
				grow(append(slices.Clone(l), keep(k)), left-k)
			}
			if last == 0 || last == api.HunkKeep {
				grow(append(slices.Clone(l), drop(k)), left-k)
			}
		}
		if last != api.HunkAdd {
			grow(append(slices.Clone(l), add("x")), left)
			grow(append(slices.Clone(l), add("a", "")), left)
		}
	}
	grow(nil, n)
	return all
}

// P4.2, P4.3 and P4.6: the lines of a result are those that Trace names, applying the inverse leads back, and the inverse of the inverse is the patch.
func TestPatchLaws(t *testing.T) {
	for _, data := range []string{"", "a", "a\nb", "a\n\na"} {
		for _, p := range patchesOf(len(linesOf(data))) {
			result, e := Apply(p, data)
			places, e2 := Trace(p, len(linesOf(data)))
			text, _ := Print(p)
			if e != api.OK || e2 != api.OK || !slices.Equal(linesOf(result), named(places, data, text)) {
				t.Fatal(p, e, e2, result, places)
			}
			inverse, e := Invert(p, data)
			back, e2 := Apply(inverse, result)
			again, e3 := Invert(inverse, result)
			if e != api.OK || e2 != api.OK || e3 != api.OK || back != data || !same(again, p) {
				t.Fatal(p, e, e2, e3, inverse, back, again)
			}
			cost, _ := Cost(p)
			other, _ := Cost(inverse)
			shortest, _ := Make(data, result)
			least, _ := Cost(shortest)
			if cost != other || least > cost {
				t.Fatal(p, cost, other, least)
			}
		}
	}
}

// named returns the lines that places name, of a text and of the text of a patch.
func named(places []api.Place, data, text string) []string {
	var lines []string
	for _, place := range places {
		switch {
		case place.New == -1:
			lines = append(lines, linesOf(data)[place.Old])
		case place.Old == -1:
			lines = append(lines, linesOf(text)[place.New])
		}
	}
	return lines
}

// P4.5 and P4.6: applying the joined patch is applying both, and it keeps what both keep.
func TestThenLaws(t *testing.T) {
	data := "a\nb"
	for _, p := range patchesOf(2) {
		middle, _ := Apply(p, data)
		n := len(linesOf(middle))
		if n > 3 {
			continue
		}
		for _, q := range patchesOf(n) {
			result, _ := Apply(q, middle)
			both, e := Then(p, q, data)
			got, e2 := Apply(both, data)
			if e != api.OK || e2 != api.OK || got != result {
				t.Fatal(p, q, e, e2, both)
			}
			if !slices.Equal(keptBy(both), joined(keptBy(p), keptBy(q))) {
				t.Fatal(p, q, both)
			}
		}
	}
}

// joined returns the pairs that lead through the pairs of two lists.
func joined(first, second []int) []int {
	var pairs []int
	for i := 0; i < len(first); i += 2 {
		for j := 0; j < len(second); j += 2 {
			if first[i+1] == second[j] {
				pairs = append(pairs, first[i], second[j+1])
			}
		}
	}
	return pairs
}
