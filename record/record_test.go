package record

import (
	"math"
	"slices"
	"strconv"
	"strings"
	"testing"

	"licit/api"
	"licit/digest"
)

// file returns a touched file, with the digest of its path.
func file(path string) api.Touch { return api.Touch{Path: path, Digest: digest.Sum(path)} }

// files returns touched files.
func files(paths ...string) []api.Touch {
	var l []api.Touch
	for _, p := range paths {
		l = append(l, file(p))
	}
	return l
}

// step returns a step of the first package, in a line of its recipe.
func step(line int, wrote string, reads ...string) api.Done {
	return api.Done{Line: line, Kind: api.StepCompile, Reads: files(reads...), Wrote: file(wrote)}
}

// example is that of the chapter.
func example() api.Record {
	r := api.Record{step(0, "a/o", "a/x"), step(1, "a/b", "a/o")}
	r[1].Kind = api.StepLink
	return r
}

// copyOf returns a record that shares no memory with another one.
func copyOf(r api.Record) api.Record {
	c := slices.Clone(r)
	for i := range c {
		c[i].Reads = slices.Clone(c[i].Reads)
	}
	return c
}

// changed returns a copy of the example with a change.
func changed(change func(r api.Record)) api.Record {
	r := example()
	change(r)
	return r
}

// many returns a record of as many steps as wanted.
func many(steps int) api.Record {
	var r api.Record
	for i := range steps {
		s := step(i%api.MaxLines, "a/o"+strconv.Itoa(i), "a/x")
		s.Package = i / api.MaxLines
		r = append(r, s)
	}
	return r
}

// wide returns a record with a step that has as many reads as wanted.
func wide(reads int) api.Record {
	s := step(0, "a/o")
	for i := range reads {
		s.Reads = append(s.Reads, file("a/x"+strconv.Itoa(i)))
	}
	return api.Record{s, step(1, "a/b", "a/o")}
}

// longPath is a path of MaxPath bytes.
func longPath() string {
	part := strings.Repeat("p", api.MaxName)
	return part + "/" + part + "/" + part + "/" + strings.Repeat("q", api.MaxPath-3*(api.MaxName+1))
}

// validRecords returns records that are valid.
func validRecords() []api.Record {
	last := step(api.MaxLines-1, "b/o", longPath(), "a/b", "a/x")
	last.Package, last.Kind = api.MaxPackages-1, api.StepInstall
	descends := step(1, "b/o", "a/b")
	descends.Package = 1
	return []api.Record{
		nil,
		{},
		example(),
		{step(0, "a/o", "a/x")},
		{last},
		append(example(), last),
		append(changed(func(r api.Record) { r[0].Line, r[1].Line = 7, 1000 }), descends),
		many(api.MaxList),
		wide(1),
		wide(api.MaxList),
		// files that are read again, with the same digest
		{step(0, "a/o", "a/x", "a/y"), step(1, "a/b", "a/y", "a/x", "a/o"), step(2, "a/c", "a/o", "a/x")},
		// a step need not write a file below its package, and a path may be below another one
		{step(0, "b", "a/x"), step(1, "b/x", "b"), step(5, "b/x/y", "b", "b/x")},
		{{Kind: api.StepCompile, Reads: []api.Touch{{Path: "a", Digest: strings.Repeat("\x00", 32)}}, Wrote: api.Touch{Path: "b", Digest: strings.Repeat("\xff", 32)}}},
	}
}

// P17.1: valid records, at the limits among others.
func TestCheck(t *testing.T) {
	for i, r := range validRecords() {
		if e := Check(r); e != api.OK {
			t.Error(i, e)
		}
	}
	for kind := api.StepCompile; kind <= api.StepInstall; kind++ {
		for place := range api.MaxPackages {
			s := step(kind, "a/o", "a/x")
			s.Package, s.Kind = place, kind
			if e := Check(api.Record{s}); e != api.OK {
				t.Error(kind, place, e)
			}
		}
	}
}

// flaw is a fault of the second step of a record: it sets some field of it.
type flaw struct {
	e     api.Errno
	field string
	set   func(s *api.Done)
}

// flawed returns a record, to whose second step flaws are added.
func flawed(flaws ...flaw) api.Record {
	s := step(5, "a/b", "a/o", "a/x", "a/z")
	r := api.Record{step(4, "a/o", "a/x", "a/y"), s, step(6, "a/c", "a/b")}
	for i := range r {
		r[i].Package = 1
	}
	for _, f := range flaws {
		f.set(&r[1])
	}
	return r
}

// number returns a flaw of one of the numbers of a step.
func number(e api.Errno, field string, value int) flaw {
	return flaw{e, field, func(s *api.Done) {
		switch field {
		case "package":
			s.Package = value
		case "line":
			s.Line = value
		default:
			s.Kind = value
		}
	}}
}

// path returns a flaw of the path of a file read, or of the one written (-1).
func path(e api.Errno, i int, value string) flaw {
	return flaw{e, "path" + strconv.Itoa(i), func(s *api.Done) { touched(s, i).Path = value }}
}

// digested returns a flaw of the digest of a file read, or of the one written (-1).
func digested(e api.Errno, i int, value string) flaw {
	return flaw{e, "digest" + strconv.Itoa(i), func(s *api.Done) { touched(s, i).Digest = value }}
}

// touched returns a file that a step has read, or the one that it has written (-1).
func touched(s *api.Done, i int) *api.Touch {
	if i < 0 {
		return &s.Wrote
	}
	return &s.Reads[i]
}

// flaws returns the faults of a step, in the order in which they are looked for.
func flaws() []flaw {
	var l []flaw
	for field, ends := range map[string][2]int{"package": {0, api.MaxPackages - 1}, "line": {0, api.MaxLines - 1}, "kind": {1, 8}} {
		for _, value := range []int{ends[0] - 1, ends[1] + 1, math.MinInt, math.MaxInt} {
			l = append(l, number(api.ErrRange, field, value))
		}
	}
	l = append(l,
		number(api.ErrOrder, "package", 0), number(api.ErrOrder, "line", 4), number(api.ErrOrder, "line", 0),
		flaw{api.ErrArg, "reads", func(s *api.Done) {
			for i := range api.MaxList - 2 {
				s.Reads = append(s.Reads, file("a/w"+strconv.Itoa(i)))
			}
		}},
	)
	for _, i := range []int{0, 1, 2, -1} {
		for _, p := range []string{"", "A", "a/", "/a", "a//b", ".a", "a b", "a\nb", longPath() + "q", "a/b/c/d/e/f/g/h/i"} {
			l = append(l, path(api.ErrName, i, p))
		}
		for _, size := range []int{0, 31, 33, 64} {
			l = append(l, digested(api.ErrCorrupt, i, strings.Repeat("d", size)))
		}
		switch i {
		case 1, 2:
			l = append(l, path(api.ErrTwice, i, "a/o"))
		case -1:
			for _, p := range []string{"a/o", "a/x", "a/y", "a/z"} {
				l = append(l, path(api.ErrTwice, i, p))
			}
		}
		if i == 0 || i == 1 {
			l = append(l, digested(api.ErrMismatch, i, digest.Sum("other")))
		}
	}
	return l
}

// P17.1: each fault alone, and two of one step, of which the one that is looked for first decides.
func TestFaults(t *testing.T) {
	if e := Check(flawed()); e != api.OK {
		t.Fatal(e)
	}
	l := flaws()
	for i, f := range l {
		if e := Check(flawed(f)); e != f.e {
			t.Error(i, f.field, e, f.e)
		}
		for j, g := range l[i:] {
			if f.field == g.field {
				continue
			}
			// reads are added behind those of other flaws
			if e := Check(flawed(g, f)); e != f.e {
				t.Error(i, j, f.field, g.field, e, f.e)
			}
		}
	}
}

// P17.1: two faults of one file that is touched, in the order of the table.
func TestFaultsOfAFile(t *testing.T) {
	other, short := digest.Sum("other"), strings.Repeat("d", 31)
	for i, x := range []struct {
		e api.Errno
		s api.Done
	}{
		{api.ErrName, api.Done{Reads: []api.Touch{{Path: "A", Digest: short}}}},
		{api.ErrName, api.Done{Reads: []api.Touch{{}, {}}}},
		{api.ErrCorrupt, api.Done{Reads: []api.Touch{file("a/z"), {Path: "a/z", Digest: short}}}},
		{api.ErrCorrupt, api.Done{Reads: []api.Touch{{Path: "a/o", Digest: short}}}},
		{api.ErrTwice, api.Done{Reads: []api.Touch{file("a/z"), {Path: "a/z", Digest: other}}}},
		{api.ErrTwice, api.Done{Reads: []api.Touch{file("a/o"), {Path: "a/o", Digest: other}}}},
		{api.ErrTwice, api.Done{Reads: []api.Touch{file("a/o"), file("a/o")}}},
		{api.ErrName, api.Done{Reads: files("a/z"), Wrote: api.Touch{Path: "A", Digest: short}}},
		{api.ErrCorrupt, api.Done{Reads: files("a/z"), Wrote: api.Touch{Path: "a/z", Digest: short}}},
		{api.ErrTwice, api.Done{Reads: files("a/z"), Wrote: api.Touch{Path: "a/z", Digest: other}}},
		{api.ErrTwice, api.Done{Reads: files("a/z"), Wrote: api.Touch{Path: "a/o", Digest: other}}},
		{api.ErrTwice, api.Done{Reads: files("a/z"), Wrote: api.Touch{Path: "a/x", Digest: other}}},
		{api.ErrMismatch, api.Done{Reads: []api.Touch{{Path: "a/o", Digest: other}}}},
		{api.ErrMismatch, api.Done{Reads: []api.Touch{file("a/z"), {Path: "a/x", Digest: other}}}},
		{api.ErrArg, api.Done{}},
		{api.ErrArg, api.Done{Reads: []api.Touch{}, Wrote: file("a/z")}},
	} {
		s := x.s
		s.Line, s.Kind = 9, api.StepCopy
		if s.Wrote == (api.Touch{}) {
			s.Wrote = file("a/q")
		}
		if e := Check(append(example(), s)); e != x.e {
			t.Error(i, e, x.e)
		}
	}
}

// P17.1: the number of steps decides before all steps, and a step before the next one.
func TestFaultsOfSteps(t *testing.T) {
	if e := Check(many(api.MaxList + 1)); e != api.ErrTooLarge {
		t.Error(e)
	}
	r := many(api.MaxList + 1)
	r[0] = api.Done{Package: -1}
	if e := Check(r); e != api.ErrTooLarge {
		t.Error(e)
	}
	if e := Check(r[:api.MaxList]); e != api.ErrRange {
		t.Error(e)
	}
	for i, f := range flaws() {
		r := flawed(f)
		r[2] = api.Done{Kind: 9}
		if e := Check(r); e != f.e {
			t.Error(i, e)
		}
		r = flawed(f)
		r[0].Reads = nil
		if e := Check(r); e != api.ErrArg {
			t.Error(i, e)
		}
	}
	for reads, want := range map[int]api.Errno{0: api.ErrArg, api.MaxList + 1: api.ErrArg} {
		if e := Check(wide(reads)); e != want {
			t.Error(reads, e)
		}
	}
}

// P17.1: the order of steps, by their packages and lines.
func TestOrderOfSteps(t *testing.T) {
	for _, x := range []struct {
		a, b [2]int // package and line
		e    api.Errno
	}{
		{[2]int{0, 0}, [2]int{0, 1}, api.OK},
		{[2]int{3, 7}, [2]int{3, 1023}, api.OK},
		{[2]int{3, 7}, [2]int{3, 7}, api.ErrOrder},
		{[2]int{3, 7}, [2]int{3, 6}, api.ErrOrder},
		{[2]int{3, 7}, [2]int{4, 6}, api.OK},
		{[2]int{3, 7}, [2]int{4, 7}, api.OK},
		{[2]int{3, 7}, [2]int{15, 0}, api.OK},
		{[2]int{3, 7}, [2]int{2, 8}, api.ErrOrder},
		{[2]int{3, 7}, [2]int{0, 0}, api.ErrOrder},
	} {
		r := example()
		r[0].Package, r[0].Line = x.a[0], x.a[1]
		r[1].Package, r[1].Line = x.b[0], x.b[1]
		if e := Check(r); e != x.e {
			t.Error(x, e)
		}
	}
}
