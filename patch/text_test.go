package patch

import (
	"slices"
	"strconv"
	"strings"
	"testing"

	"licit/api"
	"licit/digest"
)

// keep, drop and add return hunks.
func keep(n int) api.Hunk { return api.Hunk{Kind: api.HunkKeep, N: n} }
func drop(n int) api.Hunk { return api.Hunk{Kind: api.HunkDrop, N: n} }
func add(lines ...string) api.Hunk {
	return api.Hunk{Kind: api.HunkAdd, N: len(lines), Lines: lines}
}

// hunks returns a patch without a base.
func hunks(l ...api.Hunk) api.Patch { return api.Patch{Hunks: l} }

// based returns a patch with the digest of a text as base.
func based(data string, l ...api.Hunk) api.Patch {
	return api.Patch{Base: digest.Sum(data), Hunks: l}
}

// same says whether two patches are the same.
func same(p, q api.Patch) bool {
	return p.Base == q.Base && slices.EqualFunc(p.Hunks, q.Hunks, func(g, h api.Hunk) bool {
		return g.Kind == h.Kind && g.N == h.N && slices.Equal(g.Lines, h.Lines)
	})
}

// isZero says whether a patch is the zero value.
func isZero(p api.Patch) bool { return p.Base == "" && len(p.Hunks) == 0 }

// baseLine returns the line of a base.
func baseLine(data string) string {
	hex, _ := digest.Hex(digest.Sum(data))
	return "base " + hex
}

// manyLines returns n lines that all differ.
func manyLines(n int, prefix string) []string {
	lines := make([]string, n)
	for i := range lines {
		lines[i] = prefix + strconv.Itoa(i)
	}
	return lines
}

// P4.1 and P4.6: texts of patches, in both directions.
func TestTexts(t *testing.T) {
	most := strings.Repeat("keep 1\ndrop 1\n", api.MaxLines/2-1)
	var alternating []api.Hunk
	for range api.MaxLines/2 - 1 {
		alternating = append(alternating, keep(1), drop(1))
	}
	long := strings.Repeat("x", api.MaxData-len("add 1\n"))
	for i, x := range []struct {
		p    api.Patch
		text string
		cost int
	}{
		{hunks(keep(1), drop(1), add("x", "y")), "keep 1\ndrop 1\nadd 2\nx\ny", 3},
		{hunks(keep(1)), "keep 1", 0},
		{hunks(keep(api.MaxLines)), "keep 1024", 0},
		{hunks(drop(10), add("")), "drop 10\nadd 1\n", 11},
		{hunks(drop(api.MaxLines), add("a")), "drop 1024\nadd 1\na", 1025},
		{hunks(keep(1), drop(2)), "keep 1\ndrop 2", 2},
		{hunks(drop(2), keep(1)), "drop 2\nkeep 1", 2},
		{hunks(add("a"), keep(1)), "add 1\na\nkeep 1", 1},
		{hunks(keep(1), add("a")), "keep 1\nadd 1\na", 1},
		{hunks(drop(1), add("a"), keep(3), drop(4), add("b"), keep(1)), "drop 1\nadd 1\na\nkeep 3\ndrop 4\nadd 1\nb\nkeep 1", 7},
		// only head lines say what other lines are
		{hunks(add("keep 1", "", "base ", "add 5"), keep(1)), "add 4\nkeep 1\n\nbase \nadd 5\nkeep 1", 4},
		{hunks(add("drop 1"), keep(2)), "add 1\ndrop 1\nkeep 2", 1},
		{based("a", keep(1)), baseLine("a") + "\nkeep 1", 0},
		{based("", drop(1), add(baseLine(""))), baseLine("") + "\ndrop 1\nadd 1\n" + baseLine(""), 2},
		{hunks(append(slices.Clone(alternating), keep(1), drop(1))...), most + "keep 1\ndrop 1", api.MaxLines / 2},
		{based("b", append(slices.Clone(alternating), keep(2))...), baseLine("b") + "\n" + most + "keep 2", api.MaxLines/2 - 1},
		{hunks(add(long[len("keep 1\n"):]), keep(1)), "add 1\n" + long[len("keep 1\n"):] + "\nkeep 1", 1},
		{hunks(add(manyLines(api.MaxLines-2, "")...), keep(1)), "add 1022\n" + strings.Join(manyLines(api.MaxLines-2, ""), "\n") + "\nkeep 1", api.MaxLines - 2},
	} {
		if text, e := Print(x.p); e != api.OK || text != x.text {
			t.Error(i, e, text[:min(len(text), 100)])
		}
		if p, e := Parse(x.text); e != api.OK || !same(p, x.p) {
			t.Error(i, e)
		}
		if cost, e := Cost(x.p); e != api.OK || cost != x.cost {
			t.Error(i, e, cost)
		}
	}
}

// invalid returns patches that are not valid, each for one reason.
func invalid() []api.Patch {
	many := manyLines(api.MaxLines, "")
	var alternating []api.Hunk
	for range api.MaxLines/2 + 1 {
		alternating = append(alternating, keep(1), drop(1))
	}
	return []api.Patch{
		{},
		{Base: digest.Sum("")},
		{Base: "x", Hunks: []api.Hunk{keep(1)}},
		{Base: digest.Sum("") + "x", Hunks: []api.Hunk{keep(1)}},
		{Base: digest.Sum("")[1:], Hunks: []api.Hunk{keep(1)}},
		hunks(keep(0)), hunks(keep(-1)), hunks(keep(api.MaxLines + 1)), hunks(keep(1<<62), drop(1<<62)),
		hunks(drop(0), keep(1)), hunks(drop(-1), keep(2)), hunks(keep(1), add()), hunks(add(), keep(1)),
		hunks(keep(1), drop(api.MaxLines+1)),
		hunks(api.Hunk{Kind: 0, N: 1}), hunks(api.Hunk{Kind: 4, N: 1}), hunks(api.Hunk{Kind: -1, N: 1}, keep(1)), hunks(keep(1), api.Hunk{Kind: 4, N: 1}),
		hunks(api.Hunk{Kind: api.HunkKeep, N: 1, Lines: []string{"a"}}),
		hunks(keep(1), api.Hunk{Kind: api.HunkDrop, N: 1, Lines: []string{"a"}}),
		hunks(keep(1), api.Hunk{Kind: api.HunkAdd, N: 1}),
		hunks(keep(1), api.Hunk{Kind: api.HunkAdd, N: 1, Lines: []string{"a", "b"}}),
		hunks(keep(1), api.Hunk{Kind: api.HunkAdd, N: 2, Lines: []string{"a"}}),
		hunks(keep(1), api.Hunk{Kind: api.HunkAdd, N: 0, Lines: []string{"a"}}),
		hunks(keep(1), add("a\nb")), hunks(keep(1), add("a", "\n")),
		hunks(keep(1), keep(1)), hunks(drop(1), drop(1), keep(1)), hunks(keep(1), add("a"), add("b")),
		hunks(add("x"), drop(1)), hunks(keep(1), add("x"), drop(1)), hunks(drop(1), add("x"), drop(1)),
		// the numbers of lines of the text, and of the result
		hunks(drop(1)), hunks(drop(api.MaxLines)), hunks(add("a")),
		hunks(keep(api.MaxLines), drop(1)), hunks(keep(1), drop(api.MaxLines)), hunks(keep(api.MaxLines), add("a")),
		hunks(keep(3), add(many[:api.MaxLines-2]...)),
		// its text has too many lines, or bytes
		hunks(keep(1), add(many[:api.MaxLines-1]...)), hunks(alternating[:api.MaxLines+1]...), hunks(alternating...),
		based("", append(slices.Clone(alternating[:api.MaxLines-1]), drop(1))...),
		based("", add(many[:api.MaxLines-2]...), keep(1)),
		hunks(keep(1), add(strings.Repeat("x", api.MaxData-len("keep 1\nadd 1\n")+1))),
		hunks(keep(1), add(slices.Repeat([]string{strings.Repeat("x", 1<<20)}, 1000)...)),
	}
}

// P4.1: what is not valid has no text, and no cost; nor does anything else accept it.
func TestInvalid(t *testing.T) {
	large := strings.Repeat("\n", api.MaxLines)
	for i, p := range invalid() {
		if text, e := Print(p); e != api.ErrArg || text != "" {
			t.Error(i, e, text)
		}
		if cost, e := Cost(p); e != api.ErrArg || cost != 0 {
			t.Error(i, e, cost)
		}
		if data, e := Apply(p, large); e != api.ErrArg || data != "" {
			t.Error(i, e)
		}
		if inverse, e := Invert(p, large); e != api.ErrArg || !isZero(inverse) {
			t.Error(i, e)
		}
		if places, e := Trace(p, -1); e != api.ErrArg || places != nil {
			t.Error(i, e)
		}
		if both, e := Then(p, hunks(), large); e != api.ErrArg || !isZero(both) {
			t.Error(i, e)
		}
		if both, e := Then(hunks(keep(1)), p, ""); e != api.ErrArg || !isZero(both) {
			t.Error(i, e)
		}
	}
}

// P4.1: what is not the text of a valid patch.
func TestParseErrors(t *testing.T) {
	hex := strings.TrimPrefix(baseLine("a"), "base ")
	for _, text := range []string{
		"", "\n", "keep 1\n", "\nkeep 1", "keep 1\n\ndrop 1", " keep 1", "keep 1 ", "keep  1", "keep\t1", "keep1", "keep", "keep ", "Keep 1", "KEEP 1",
		"keep 0", "keep -1", "keep +1", "keep 01", "keep 1.0", "keep 0x1", "keep 1_0", "keep one", "keep 1 1", "keep 1\r", "keep ١",
		"keep 1025", "keep 99999999999999999999", "keep 18446744073709551617", "keep 1024\ndrop 1",
		"add 1", "add 1\nx", "keep 1\nadd 1", "keep 1\nadd 2\nx", "keep 1\nadd 0", "keep 1\nadd 1\nx\ny", "keep 1\nadd 1025", "keep 1\nadd 9223372036854775807\nx",
		"drop 1", "drop 1\ndrop 1\nkeep 1", "keep 1\nkeep 1", "keep 1\nadd 1\nx\nadd 1\ny",
		"add 1\nx\ndrop 1", "keep 1\nadd 1\nx\ndrop 1",
		"change 1", "x", "base", "base ", hex, "base " + hex, "base " + hex + "\n", "base " + hex + "\ndrop 1",
		"base " + strings.ToUpper(hex) + "\nkeep 1", "base " + hex[1:] + "\nkeep 1", "base " + hex + "0\nkeep 1", "base  " + hex + "\nkeep 1",
		"base " + hex + "\nbase " + hex + "\nkeep 1", "keep 1\nbase " + hex,
	} {
		if p, e := Parse(text); e != api.ErrSyntax || !isZero(p) {
			t.Error(strconv.Quote(text), e, p)
		}
	}
	for i, text := range []string{
		"keep 1" + strings.Repeat("\n", api.MaxLines),
		"keep 1\nadd 1\n" + strings.Repeat("x", api.MaxData),
		strings.Repeat("?", api.MaxData+1),
	} {
		if p, e := Parse(text); e != api.ErrTooLarge || !isZero(p) {
			t.Error(i, e)
		}
	}
}

// eachText passes all texts of up to most lines, out of a few ones, to a function.
func eachText(lines []string, most int, use func(string)) {
	use("")
	var grow func(text string, left int)
	grow = func(text string, left int) {
		use(text)
		if left > 0 {
			for _, line := range lines {
				grow(text+"\n"+line, left-1)
			}
		}
	}
	for _, line := range lines {
		grow(line, most-1)
	}
}

// P4.1 and P4.6: whatever is parsed is printed with the same text.
func TestParseIsExact(t *testing.T) {
	found := 0
	eachText([]string{"keep 1", "keep 2", "drop 1", "add 1", "add 2", "", "x", baseLine("x")}, 5, func(text string) {
		p, e := Parse(text)
		if e == api.OK {
			found++
			if printed, e := Print(p); e != api.OK || printed != text {
				t.Error(strconv.Quote(text), printed, e)
			}
		} else if !isZero(p) || e != api.ErrSyntax {
			t.Error(strconv.Quote(text), e)
		}
	})
	if found < 200 {
		t.Error(found)
	}
}
