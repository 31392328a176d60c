package span

import (
	"math/rand"
	"slices"
	"testing"

	"licit/api"
)

// of returns a span of the file a.
func of(from, to int) api.Span { return api.Span{Path: "a", From: from, To: to} }

// Spans that are empty, overlap, touch, occur twice or are in another order become one set.
func TestSet(t *testing.T) {
	b := api.Span{Path: "b", From: 1, To: 2}
	for i, x := range []struct{ spans, want []api.Span }{
		{nil, nil},
		{[]api.Span{of(1, 1), of(3, 3)}, nil},
		{[]api.Span{of(2, 1)}, nil},
		{[]api.Span{of(1, 2)}, []api.Span{of(1, 2)}},
		{[]api.Span{b, of(1, 2)}, []api.Span{of(1, 2), b}},
		{[]api.Span{of(5, 6), of(1, 2)}, []api.Span{of(1, 2), of(5, 6)}},
		{[]api.Span{of(2, 3), of(1, 2)}, []api.Span{of(1, 3)}},
		{[]api.Span{of(1, 5), of(2, 3), of(4, 7)}, []api.Span{of(1, 7)}},
		{[]api.Span{of(1, 2), of(1, 2), of(1, 1)}, []api.Span{of(1, 2)}},
		{[]api.Span{of(1, 2), of(2, 2), of(3, 4)}, []api.Span{of(1, 2), of(3, 4)}},
		{[]api.Span{of(0, 1), b}, []api.Span{of(0, 1), b}},
	} {
		before := slices.Clone(x.spans)
		if set := Set(x.spans); !slices.Equal(set, x.want) || !slices.Equal(x.spans, before) {
			t.Error(i, set, x.spans)
		}
	}
}

// A set has just the lines of its spans, in spans that neither overlap nor touch.
func TestSetHasTheLines(t *testing.T) {
	r := rand.New(rand.NewSource(1))
	for range 5000 {
		var spans []api.Span
		var in [20]bool
		for range r.Intn(6) {
			from := r.Intn(16)
			s := of(from, from+r.Intn(5))
			for n := s.From; n < s.To; n++ {
				in[n] = true
			}
			spans = append(spans, s)
		}
		set := Set(spans)
		var has [20]bool
		for i, s := range set {
			if s.From >= s.To || i > 0 && set[i-1].To >= s.From {
				t.Fatal(spans, set)
			}
			for n := s.From; n < s.To; n++ {
				has[n] = true
			}
		}
		if in != has {
			t.Fatal(spans, set)
		}
	}
}
