package trace

import (
	"math"
	"math/rand"
	"slices"
	"strings"
	"testing"

	"licit/api"
	"licit/sample"
)

// The streams of a step lead to the segments that it has written, to each of them, and come from what it has read, each segment once on a route.
func TestStreams(t *testing.T) {
	r := rand.New(rand.NewSource(1))
	m := sample.Maker{Intn: r.Intn}
	for range 50 {
		x, f := New(m.Distribution(1+r.Intn(3), 8))
		if f != (api.Fault{}) {
			t.Fatal(f)
		}
		record := x.Built().Record
		if x.Steps() != len(record) {
			t.Fatal(x.Steps())
		}
		for i, done := range record {
			var read []api.Segment
			for _, y := range done.Reads {
				read = append(read, x.Segments(y.Path)...)
			}
			reached := map[api.Segment]bool{}
			for _, s := range x.Streams(i) {
				for _, to := range s.To {
					reached[to] = true
				}
				for n, from := range s.From {
					if !slices.Contains(read, from.From) || slices.Contains(s.From[:n], from) {
						t.Fatal(done, from)
					}
				}
			}
			for _, s := range x.Segments(done.Wrote.Path) {
				if !reached[s] {
					t.Fatal(done, s)
				}
				delete(reached, s)
			}
			if len(reached) > 0 || x.Out(i) != done.Wrote.Path {
				t.Fatal(done, reached)
			}
		}
	}
}

// A run has one stream, however long its input and its output are.
func TestLongRun(t *testing.T) {
	const n = 15000
	source := "export fn main 7\nlet n = 3750\nwhile n 5\nout 10\nout 10\nout 10\nout 10\nset n = n - 1"
	x, f := New(api.Distribution{{Name: "a", Version: "1", Recipe: "recipe", Tree: api.Tree{
		{Path: "in", Data: strings.Repeat("\n", api.MaxData)},
		{Path: "main.src", Data: source},
		{Path: "recipe", Data: "compile main.src to o\nlink main o to bin\nrun bin on in to out\ncopy in to c"},
	}}})
	if f.Error != api.OK {
		t.Fatal(f)
	}
	l := x.Streams(2)
	if len(l) != 1 || len(l[0].To) != n+2 || len(l[0].From) != 2+api.MaxData+2 {
		t.Fatal(len(l))
	}
	if l := x.Streams(3); len(l) != api.MaxData+2 {
		t.Error(len(l))
	}
}

// The writer of a path is the step that has written it; a path that no step has written has none.
func TestWriter(t *testing.T) {
	x, f := New(sample.Factory())
	if f.Error != api.OK {
		t.Fatal(f)
	}
	for i := range x.Steps() {
		if step, written := x.Writer(x.Out(i)); step != i || !written {
			t.Error(i, step, written)
		}
	}
	for _, path := range []string{"", "app/in", "app/none", "lib/recipe", "app"} {
		if step, written := x.Writer(path); step != 0 || written {
			t.Error(path, step)
		}
	}
}

// Segments are compared by path, member, kind and index, one after the other.
func TestCompare(t *testing.T) {
	order := []api.Segment{
		{}, {Index: 9}, {Kind: api.SegmentLine, Index: 2}, {Kind: api.SegmentLine, Index: 10}, {Kind: api.SegmentSection}, {Kind: api.SegmentList},
		{Member: "a", Kind: api.SegmentSection, Index: 3}, {Member: "a-"}, {Member: "a/b", Kind: api.SegmentFile},
		{Path: "a", Kind: api.SegmentList, Index: 7}, {Path: "a", Member: "b"}, {Path: "a-b"}, {Path: "a/b"}, {Path: "b"},
	}
	for i, a := range order {
		for j, b := range order {
			if c := Compare(a, b); c < 0 != (i < j) || c > 0 != (i > j) {
				t.Error(a, b, c)
			}
		}
	}
}

// The zero value has neither files nor steps; indices and paths may be anything.
func TestNothing(t *testing.T) {
	for _, path := range []string{"", "a", "a/in"} {
		var x Trace
		if b := x.Built(); b.Files != nil || b.Installed != nil || b.Record != nil || x.Steps() != 0 || x.Kind(path) != 0 || x.Segments(path) != nil || x.Places(path) != nil {
			t.Error(path)
		}
	}
	d := api.Distribution{{Name: "a", Version: "1", Recipe: "recipe", Tree: api.Tree{{Path: "recipe", Data: "copy recipe to x"}}}}
	known, f := New(d)
	if f.Error != api.OK {
		t.Fatal(f)
	}
	for _, x := range []*Trace{{}, &known} {
		for _, i := range []int{-1, 1, 2, math.MaxInt, math.MinInt} {
			if x.Streams(i) != nil || x.Out(i) != "" || x.Recipes(i) != nil {
				t.Error(i)
			}
		}
	}
	if known.Out(0) != "a/x" || len(known.Streams(0)) != 2 || known.Places("a/x") != nil {
		t.Error(known.Streams(0))
	}
	d[0].Name = "A"
	if x, f := New(d); f.Error != api.ErrName || x.Steps() != 0 || x.Kind("a/x") != 0 {
		t.Error(f)
	}
}
