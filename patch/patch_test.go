package patch

import (
	"slices"
	"strings"
	"testing"

	"licit/api"
)

// P4.2: results and places, written out.
func TestApply(t *testing.T) {
	kept := func(old int) api.Place { return api.Place{Old: old, New: -1} }
	added := func(line int) api.Place { return api.Place{Old: -1, New: line} }
	for i, x := range []struct {
		p          api.Patch
		data, want string
		places     []api.Place
	}{
		{hunks(keep(1), drop(1), add("x", "y")), "a\nb", "a\nx\ny", []api.Place{kept(0), added(3), added(4)}},
		{hunks(keep(1)), "", "", []api.Place{kept(0)}},
		{hunks(keep(1)), "a", "a", []api.Place{kept(0)}},
		{hunks(keep(2)), "a\n", "a\n", []api.Place{kept(0), kept(1)}},
		{hunks(drop(1), add("")), "", "", []api.Place{added(2)}},
		{hunks(drop(1), add("x")), "", "x", []api.Place{added(2)}},
		{hunks(add("x"), keep(1)), "", "x\n", []api.Place{added(1), kept(0)}},
		{hunks(keep(1), add("x")), "", "\nx", []api.Place{kept(0), added(2)}},
		{hunks(drop(3), add("x")), "a\nb\nc", "x", []api.Place{added(2)}},
		{hunks(keep(1), drop(2)), "\n\n", "", []api.Place{kept(0)}},
		{hunks(drop(1), keep(1), drop(1), add("x"), keep(1), add("y", "")), "a\nb\nc\nd", "b\nx\nd\ny\n",
			[]api.Place{kept(1), added(4), kept(3), added(7), added(8)}},
		{based("a\nb", drop(1), add("x"), keep(1), add("y")), "a\nb", "x\nb\ny", []api.Place{added(3), kept(1), added(6)}},
		{based("", keep(1)), "", "", []api.Place{kept(0)}},
	} {
		if data, e := Apply(x.p, x.data); e != api.OK || data != x.want {
			t.Error(i, e, data)
		}
		n := strings.Count(x.data, "\n") + 1
		if places, e := Trace(x.p, n); e != api.OK || !slices.Equal(places, x.places) {
			t.Error(i, e, places)
		}
		for _, other := range []int{-1, 0, n - 1, n + 1, 1 << 40} {
			if places, e := Trace(x.p, other); e != api.ErrMismatch || places != nil {
				t.Error(i, other, e)
			}
		}
	}
	whole := strings.Repeat("\n", api.MaxLines-1)
	if data, e := Apply(hunks(keep(api.MaxLines)), whole); e != api.OK || data != whole {
		t.Error(e)
	}
	if data, e := Apply(hunks(drop(api.MaxLines-1), keep(1)), whole); e != api.OK || data != "" {
		t.Error(e)
	}
}

// P4.2: the first error of Apply, and of what begins with it.
func TestApplyErrors(t *testing.T) {
	full := strings.Repeat("x", api.MaxData)
	for i, x := range []struct {
		p    api.Patch
		data string
		e    api.Errno
	}{
		{hunks(keep(1)), strings.Repeat("\n", api.MaxLines), api.ErrTooLarge},
		{based("a", keep(1)), full + "x", api.ErrTooLarge},
		{hunks(keep(1)), "a\nb", api.ErrMismatch},
		{hunks(keep(2)), "a", api.ErrMismatch},
		{hunks(drop(1), add("x")), "\n", api.ErrMismatch},
		{hunks(keep(1), add("x")), "a\nx", api.ErrMismatch},
		{based("b", keep(1)), "a", api.ErrMismatch},
		{based("a\nb", keep(1)), "a\nb", api.ErrMismatch},
		{api.Patch{Base: strings.Repeat("\x00", api.DigestSize), Hunks: []api.Hunk{keep(1)}}, "a", api.ErrMismatch},
		{based("fa", keep(1)), "a", api.ErrMismatch},
		{based("a", keep(1), add("y")), full, api.ErrMismatch},
		{hunks(keep(2), add("y")), full, api.ErrMismatch},
		{hunks(keep(1), add("")), full, api.ErrTooLarge},
		{hunks(add("y"), keep(1)), full[1:], api.ErrTooLarge},
		{based(full, add(""), keep(1)), full, api.ErrTooLarge},
		{hunks(add(""), keep(1)), full[1:], api.OK},
	} {
		data, e := Apply(x.p, x.data)
		if e != x.e || e != api.OK && data != "" {
			t.Error(i, e, x.e)
		}
		if p, e := Invert(x.p, x.data); e != x.e || e != api.OK && !isZero(p) {
			t.Error(i, e, x.e)
		}
		if p, e := Then(x.p, hunks(), x.data); x.e != api.OK && e != x.e || !isZero(p) {
			t.Error(i, e, x.e)
		}
		if p, e := Then(hunks(keep(1)), x.p, x.data); strings.Count(x.data, "\n") == 0 && len(x.data) <= api.MaxData && (e != x.e || e != api.OK && !isZero(p)) {
			t.Error(i, e, x.e)
		}
	}
}

// P4.3: inverses, written out.
func TestInvert(t *testing.T) {
	for i, x := range []struct {
		p       api.Patch
		data    string
		inverse api.Patch
	}{
		{hunks(keep(1), drop(1), add("x", "y")), "a\nb", hunks(keep(1), drop(2), add("b"))},
		{hunks(keep(2)), "a\n", hunks(keep(2))},
		{hunks(keep(1)), "", hunks(keep(1))},
		{hunks(drop(2), add("x")), "a\n", hunks(drop(1), add("a", ""))},
		{hunks(add("x"), keep(1), drop(1)), "a\nb", hunks(drop(1), keep(1), add("b"))},
		{hunks(drop(1), keep(1), add("x")), "a\nb", hunks(add("a"), keep(1), drop(1))},
		// it does not look for common lines
		{hunks(drop(1), add("a")), "a", hunks(drop(1), add("a"))},
		{hunks(drop(1), add("x"), keep(1), drop(1), add("y"), keep(1)), "a\nb\nc\nd", hunks(drop(1), add("a"), keep(1), drop(1), add("c"), keep(1))},
		{based("a", keep(1), add("x")), "a", based("a\nx", keep(1), drop(1))},
		{based("", drop(1), add("x")), "", based("x", drop(1), add(""))},
	} {
		inverse, e := Invert(x.p, x.data)
		if e != api.OK || !same(inverse, x.inverse) {
			t.Error(i, e, inverse)
		}
		result, _ := Apply(x.p, x.data)
		if back, e := Apply(inverse, result); e != api.OK || back != x.data {
			t.Error(i, e, back)
		}
	}
}

// P4.3: the text of an inverse may have too many lines, or bytes.
func TestInvertTooLarge(t *testing.T) {
	lines := manyLines(api.MaxLines, "")
	most := strings.Join(lines[:api.MaxLines-2], "\n")
	for i, x := range []struct {
		p    api.Patch
		data string
		e    api.Errno
	}{
		{hunks(drop(api.MaxLines), add("x")), strings.Join(lines, "\n"), api.ErrTooLarge},
		{hunks(drop(api.MaxLines-1), add("x")), strings.Join(lines[1:], "\n"), api.ErrTooLarge},
		{hunks(drop(api.MaxLines-2), add("x")), most, api.OK},
		{based(most, drop(api.MaxLines-2), add("x")), most, api.ErrTooLarge},
		{hunks(drop(1), add("x")), strings.Repeat("x", api.MaxData-len("drop 1\nadd 1\n")), api.OK},
		{hunks(drop(1), add("x")), strings.Repeat("x", api.MaxData-len("drop 1\nadd 1\n")+1), api.ErrTooLarge},
	} {
		inverse, e := Invert(x.p, x.data)
		if e != x.e || isZero(inverse) != (e != api.OK) {
			t.Error(i, e, x.e)
		}
	}
}

// P4.5: joined patches, written out.
func TestThen(t *testing.T) {
	for i, x := range []struct {
		p, q api.Patch
		data string
		want api.Patch
	}{
		{hunks(keep(2)), hunks(keep(2)), "a\nb", hunks(keep(2))},
		{hunks(keep(1)), hunks(keep(1)), "", hunks(keep(1))},
		{hunks(keep(1), add("x")), hunks(keep(1), drop(1)), "a", hunks(keep(1))},
		{hunks(keep(1), add("x")), hunks(keep(2)), "a", hunks(keep(1), add("x"))},
		{hunks(keep(1), add("x")), hunks(drop(1), keep(1)), "a", hunks(drop(1), add("x"))},
		{hunks(add("x"), keep(1)), hunks(keep(1), add("y"), keep(1)), "a", hunks(add("x", "y"), keep(1))},
		{hunks(drop(1), keep(1)), hunks(add("x"), keep(1)), "a\nb", hunks(drop(1), add("x"), keep(1))},
		{hunks(drop(1), add("x"), keep(1)), hunks(keep(1), drop(1), add("y")), "a\nb", hunks(drop(2), add("x", "y"))},
		// a line that was dropped and added again is not kept
		{hunks(drop(1), add("x")), hunks(drop(1), add("a")), "a", hunks(drop(1), add("a"))},
		{hunks(drop(1), add("x")), hunks(keep(1)), "", hunks(drop(1), add("x"))},
		{hunks(drop(2), add("x")), hunks(drop(1), add("")), "a\nb", hunks(drop(2), add(""))},
		{hunks(keep(1), drop(1), keep(2)), hunks(keep(1), add("x"), keep(1), drop(1)), "a\nb\nc\nd", hunks(keep(1), drop(1), add("x"), keep(1), drop(1))},
		// the base is that of the first patch
		{based("a", keep(1), add("x")), hunks(drop(1), keep(1)), "a", based("a", drop(1), add("x"))},
		{hunks(keep(1), add("x")), based("a\nx", keep(2)), "a", hunks(keep(1), add("x"))},
		{based("a", keep(1)), based("a", drop(1), add("b")), "a", based("a", drop(1), add("b"))},
	} {
		both, e := Then(x.p, x.q, x.data)
		if e != api.OK || !same(both, x.want) {
			t.Error(i, e, both)
		}
	}
}

// P4.5: the first error of Then: that of the first patch, that of the second one, and then the size of the text.
func TestThenErrors(t *testing.T) {
	lines := manyLines(api.MaxLines, "")
	half := strings.Repeat("x", api.MaxData/2)
	for i, x := range []struct {
		p, q api.Patch
		data string
		e    api.Errno
	}{
		{hunks(keep(2)), hunks(), "a", api.ErrMismatch},
		{hunks(keep(1)), hunks(), "a", api.ErrArg},
		{hunks(keep(1), add("x")), hunks(keep(1)), "a", api.ErrMismatch},
		{hunks(keep(1), add("x")), based("a", keep(2)), "a", api.ErrMismatch},
		{hunks(keep(1), add("")), hunks(keep(2), add(half)), half, api.ErrTooLarge},
		// half of the lines each are added, so that only both together are too many
		{hunks(keep(1), add(lines[:500]...)), hunks(keep(501), add(lines[:523]...)), "a", api.ErrTooLarge},
		{hunks(keep(1), add(lines[:500]...)), hunks(add(lines[:522]...), keep(501)), "a", api.ErrTooLarge},
		{hunks(keep(1), add(lines[:500]...)), hunks(keep(501), add(lines[:522]...)), "a", api.OK},
		{hunks(keep(1), add(lines[:500]...)), hunks(add(lines[:521]...), keep(501)), "a", api.OK},
		{based("a", keep(1), add(lines[:500]...)), hunks(keep(501), add(lines[:522]...)), "a", api.ErrTooLarge},
		{hunks(keep(1), add(half)), hunks(keep(2), add(half[20:])), "", api.OK},
		{hunks(keep(1), add(half)), hunks(keep(2), add(half[10:])), "", api.ErrTooLarge},
	} {
		both, e := Then(x.p, x.q, x.data)
		if e != x.e || isZero(both) != (e != api.OK) {
			t.Error(i, e, x.e)
		}
	}
}

// spoil writes behind the lines of each hunk, as far as there is memory.
func spoil(p api.Patch) {
	for _, h := range p.Hunks {
		all := h.Lines[:cap(h.Lines)]
		for i := len(h.Lines); i < len(all); i++ {
			all[i] = "changed"
		}
	}
}

// Results share no memory with arguments, and no two slices of a result share some.
func TestFreshPatches(t *testing.T) {
	p := hunks(keep(1), add("x", "y"))
	q, _ := Then(p, hunks(add("z"), keep(3)), "a")
	for _, h := range q.Hunks {
		clear(h.Lines)
	}
	clear(q.Hunks)
	if !same(p, hunks(keep(1), add("x", "y"))) {
		t.Error(p)
	}
	want := hunks(add("x"), keep(1), add("y", "z"), keep(1), add("x"))
	parsed, _ := Parse("add 1\nx\nkeep 1\nadd 2\ny\nz\nkeep 1\nadd 1\nx")
	made, _ := Make("a\nb", "x\na\ny\nz\nb\nx")
	joined, _ := Then(hunks(add("x"), keep(2)), hunks(keep(2), add("y", "z"), keep(1), add("x")), "a\nb")
	inverse, _ := Invert(hunks(drop(1), keep(1), drop(2), keep(1), drop(1)), "x\na\ny\nz\nb\nx")
	for i, p := range []api.Patch{parsed, made, joined, inverse} {
		spoil(p)
		if !same(p, want) {
			t.Error(i, p)
		}
	}
}
