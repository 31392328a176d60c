package record

import (
	"slices"
	"testing"

	"licit/api"
	"licit/digest"
)

// net is a record in which a/b is made on two ways, and a/k beside it.
func net() api.Record {
	return api.Record{
		step(0, "a/o", "a/x"),
		step(1, "a/p", "a/y", "a/x"),
		step(2, "a/q", "a/z"),
		step(3, "a/b", "a/p", "a/o", "a/y"),
		step(4, "a/i", "a/b"),
		step(5, "a/k", "a/z", "a/q", "a/v"),
	}
}

// invalidRecords returns records, each of which has a fault.
func invalidRecords() []api.Record {
	var l []api.Record
	for _, f := range flaws() {
		l = append(l, flawed(f))
	}
	return append(l, many(api.MaxList+1))
}

// P17.2: writers, needed steps and sources.
func TestNeeded(t *testing.T) {
	for _, x := range []struct {
		path    string
		writer  int
		needed  []int
		sources []string
	}{
		{"a/o", 0, []int{0}, []string{"a/x"}},
		{"a/p", 1, []int{1}, []string{"a/x", "a/y"}},
		{"a/q", 2, []int{2}, []string{"a/z"}},
		{"a/b", 3, []int{0, 1, 3}, []string{"a/x", "a/y"}},
		{"a/i", 4, []int{0, 1, 3, 4}, []string{"a/x", "a/y"}},
		{"a/k", 5, []int{2, 5}, []string{"a/v", "a/z"}},
		// nobody writes these
		{"a/x", -1, nil, nil},
		{"a/none", -1, nil, nil},
		{"a", -1, nil, nil},
		{"", -1, nil, nil},
		{"/", -1, nil, nil},
		{"a/b/", -1, nil, nil},
		{"A b\n", -1, nil, nil},
		{longPath() + "q", -1, nil, nil},
	} {
		r := net()
		if w := Writer(r, x.path); w != x.writer {
			t.Error(x.path, w)
		}
		if l := Needed(r, x.path); !slices.Equal(l, x.needed) {
			t.Error(x.path, l)
		}
		if l := Sources(r, x.path); !slices.Equal(l, x.sources) {
			t.Error(x.path, l)
		}
		if !isEqual(r, net()) {
			t.Error(x.path, r)
		}
	}
}

// P17.2, P17.3: the example of the chapter.
func TestExample(t *testing.T) {
	r := example()
	if w := Writer(r, "a/b"); w != 1 {
		t.Error(w)
	}
	if l := Needed(r, "a/b"); !slices.Equal(l, []int{0, 1}) {
		t.Error(l)
	}
	if l := Sources(r, "a/b"); !slices.Equal(l, []string{"a/x"}) {
		t.Error(l)
	}
	if l := Affected(r, []string{"a/o"}); !slices.Equal(l, []int{1}) {
		t.Error(l)
	}
	other := example()
	other[1].Wrote.Digest = digest.Sum("other")
	if n := Diverge(r, other); n != 1 {
		t.Error(n)
	}
}

// P17.2: sources are sorted bytewise, and not in the order in which they are read; the last one of the most steps needs all of them.
func TestNeededAtLimits(t *testing.T) {
	r := api.Record{step(0, "a/o", "b", "a/b", "a-b", "a", "a0", "a.b")}
	if l := Sources(r, "a/o"); !slices.Equal(l, []string{"a", "a-b", "a.b", "a/b", "a0", "b"}) {
		t.Error(l)
	}
	long := many(api.MaxList)
	for i := range long[1:] {
		long[i+1].Reads = append(long[i+1].Reads, long[i].Wrote)
	}
	last := long[api.MaxList-1].Wrote.Path
	if l := Needed(long, last); len(l) != api.MaxList || !slices.IsSorted(l) || Writer(long, last) != api.MaxList-1 || !slices.Equal(Sources(long, last), []string{"a/x"}) {
		t.Error(l)
	}
	if l := Affected(long, []string{long[0].Wrote.Path}); len(l) != api.MaxList-1 || l[0] != 1 || !slices.IsSorted(l) {
		t.Error(l)
	}
	if l := Sources(wide(api.MaxList), "a/b"); len(l) != api.MaxList || !slices.IsSorted(l) {
		t.Error(len(l))
	}
}

// P17.3: the steps that paths affect.
func TestAffected(t *testing.T) {
	for i, x := range []struct {
		paths []string
		want  []int
	}{
		{nil, nil},
		{[]string{}, nil},
		{[]string{"a/x"}, []int{0, 1, 3, 4}},
		{[]string{"a/y"}, []int{1, 3, 4}},
		{[]string{"a/z"}, []int{2, 5}},
		{[]string{"a/v"}, []int{5}},
		{[]string{"a/o"}, []int{3, 4}},
		{[]string{"a/b"}, []int{4}},
		// what nobody reads
		{[]string{"a/i"}, nil},
		{[]string{"a/k", "a/none", "", "/", "A b\n", "a", "a/b/"}, nil},
		{[]string{"", "a/b", "a/b", "//", "a/b"}, []int{4}},
		{[]string{"a/v", "a/x"}, []int{0, 1, 3, 4, 5}},
		{[]string{"a/z", "a/y", "a/x"}, []int{0, 1, 2, 3, 4, 5}},
	} {
		r, paths := net(), slices.Clone(x.paths)
		if l := Affected(r, paths); !slices.Equal(l, x.want) || !slices.Equal(paths, x.paths) || !isEqual(r, net()) {
			t.Error(i, l)
		}
	}
	if l := Affected(nil, []string{"a/x"}); l != nil {
		t.Error(l)
	}
}

// P17.2, P17.3: records that are not valid.
func TestNothingOfInvalidRecords(t *testing.T) {
	for i, r := range invalidRecords() {
		for _, p := range []string{"a/o", "a/b", "a/c", ""} {
			if w, l, s := Writer(r, p), Needed(r, p), Sources(r, p); w != -1 || l != nil || s != nil {
				t.Error(i, p, w, l, s)
			}
		}
		if l := Affected(r, []string{"a/x", "a/o"}); l != nil {
			t.Error(i, l)
		}
	}
	if w, l, s := Writer(nil, ""), Needed(nil, ""), Sources(nil, ""); w != -1 || l != nil || s != nil {
		t.Error(w, l, s)
	}
}

// P17.2: results share no memory.
func TestResultsAreNew(t *testing.T) {
	r := net()
	l, s, a := Needed(r, "a/i"), Sources(r, "a/i"), Affected(r, []string{"a/x"})
	l[0], s[0], a[0] = 9, "other", 9
	if l, s, a := Needed(r, "a/i"), Sources(r, "a/i"), Affected(r, []string{"a/x"}); l[0] != 0 || s[0] != "a/x" || a[0] != 0 || !isEqual(r, net()) {
		t.Error(l, s, a)
	}
}
