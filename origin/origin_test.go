package origin

import (
	"math"
	"math/rand"
	"slices"
	"testing"

	"licit/api"
	"licit/lineset"
)

// sp returns a span.
func sp(path string, from, to int) api.Span { return api.Span{Path: path, From: from, To: to} }

// same says whether two origins are the same, where nil and empty sets are.
func same(a, b api.Origin) bool {
	return slices.Equal(a.In, b.In) && slices.Equal(a.By, b.By) && slices.Equal(a.List, b.List)
}

// some is a valid origin in which each set has lines of its own, and lines of the others.
func some() api.Origin {
	return api.Origin{
		In:   api.Lines{sp("a", 0, 2), sp("a", 4, 5), sp("b", 0, 1)},
		By:   api.Lines{sp("a", 1, 3), sp("c", 7, 9)},
		List: api.Lines{sp("a", 3, 4), sp("b", 0, 1), sp("d", 0, api.MaxLines)},
	}
}

// invalid returns origins that are not valid, since one of their sets is not.
func invalid() []api.Origin {
	var l []api.Origin
	for _, bad := range []api.Lines{
		{sp("A", 0, 1)}, {sp("", 0, 1)}, {sp("a", 1, 1)}, {sp("a", -1, 1)}, {sp("a", 0, api.MaxLines+1)},
		{sp("a", 0, 1), sp("a", 1, 2)}, {sp("b", 0, 1), sp("a", 0, 1)}, {sp("a", 0, 2), sp("a", 1, 3)},
	} {
		for i := range 3 {
			o := some()
			*[]*api.Lines{&o.In, &o.By, &o.List}[i] = bad
			l = append(l, o)
		}
	}
	return l
}

// P19.1: an origin is valid if all three sets are.
func TestValid(t *testing.T) {
	for i, o := range []api.Origin{{}, some(), {In: api.Lines{}, By: api.Lines{}, List: api.Lines{}}, {In: api.Lines{sp("a", 0, 1)}}, {By: api.Lines{sp("a", 0, 1)}}, {List: api.Lines{sp("a", 0, 1)}}} {
		if !Valid(o) {
			t.Error(i)
		}
	}
	for i, o := range invalid() {
		if Valid(o) {
			t.Error(i, o)
		}
	}
}

// P19.1: the sets of both, each for itself.
func TestUnion(t *testing.T) {
	other := api.Origin{In: api.Lines{sp("a", 2, 3)}, By: api.Lines{sp("a", 0, 1), sp("b", 5, 6)}, List: api.Lines{sp("b", 1, 2)}}
	want := api.Origin{
		In:   api.Lines{sp("a", 0, 3), sp("a", 4, 5), sp("b", 0, 1)},
		By:   api.Lines{sp("a", 0, 3), sp("b", 5, 6), sp("c", 7, 9)},
		List: api.Lines{sp("a", 3, 4), sp("b", 0, 2), sp("d", 0, api.MaxLines)},
	}
	for i, x := range []struct{ a, b, want api.Origin }{
		{some(), other, want}, {other, some(), want}, {some(), some(), some()}, {some(), api.Origin{}, some()}, {api.Origin{}, other, other}, {},
	} {
		if o, e := Union(x.a, x.b); e != api.OK || !same(o, x.want) {
			t.Error(i, o, e)
		}
	}
	for i, bad := range invalid() {
		for j, x := range [][2]api.Origin{{bad, some()}, {some(), bad}, {bad, bad}, {bad, {}}, {{}, bad}} {
			if o, e := Union(x[0], x[1]); e != api.ErrArg || !same(o, api.Origin{}) {
				t.Error(i, j, o, e)
			}
		}
	}
}

// P19.1: what an origin becomes on each route.
func TestThrough(t *testing.T) {
	all := api.Lines{sp("a", 0, 5), sp("b", 0, 1), sp("c", 7, 9), sp("d", 0, api.MaxLines)}
	for i, x := range []struct {
		o     api.Origin
		route int
		want  api.Origin
	}{
		{some(), api.RouteIn, some()},
		{some(), api.RouteBy, api.Origin{By: all}},
		{some(), api.RouteList, api.Origin{By: some().By, List: api.Lines{sp("a", 0, 2), sp("a", 3, 5), sp("b", 0, 1), sp("d", 0, api.MaxLines)}}},
		{api.Origin{In: all}, api.RouteBy, api.Origin{By: all}},
		{api.Origin{By: all}, api.RouteBy, api.Origin{By: all}},
		{api.Origin{List: all}, api.RouteBy, api.Origin{By: all}},
		{api.Origin{In: all}, api.RouteList, api.Origin{List: all}},
		{api.Origin{By: all}, api.RouteList, api.Origin{By: all}},
		{api.Origin{List: all}, api.RouteList, api.Origin{List: all}},
		{api.Origin{}, api.RouteIn, api.Origin{}}, {api.Origin{}, api.RouteBy, api.Origin{}}, {api.Origin{}, api.RouteList, api.Origin{}},
	} {
		if o, e := Through(x.o, x.route); e != api.OK || !same(o, x.want) {
			t.Error(i, o, e)
		}
	}
}

// P19.1: routes just outside, and an origin that is not valid, which decides first.
func TestThroughErrors(t *testing.T) {
	outside := []int{0, -1, api.RouteRecipe, api.RouteRecipe + 1, math.MaxInt, math.MinInt}
	for _, route := range outside {
		for _, x := range []api.Origin{some(), {}} {
			if o, e := Through(x, route); e != api.ErrRange || !same(o, api.Origin{}) {
				t.Error(route, o, e)
			}
		}
	}
	for i, bad := range invalid() {
		for _, route := range append(outside, api.RouteIn, api.RouteBy, api.RouteList) {
			if o, e := Through(bad, route); e != api.ErrArg || !same(o, api.Origin{}) {
				t.Error(i, route, o, e)
			}
		}
	}
}

// P19.1: all lines of the three sets.
func TestAll(t *testing.T) {
	for i, x := range []struct {
		o    api.Origin
		want api.Lines
	}{
		{some(), api.Lines{sp("a", 0, 5), sp("b", 0, 1), sp("c", 7, 9), sp("d", 0, api.MaxLines)}},
		{api.Origin{}, nil},
		{api.Origin{By: api.Lines{sp("a", 3, 4)}}, api.Lines{sp("a", 3, 4)}},
		{api.Origin{List: api.Lines{sp("a", 3, 4)}}, api.Lines{sp("a", 3, 4)}},
	} {
		if l, e := All(x.o); e != api.OK || !slices.Equal(l, x.want) {
			t.Error(i, l, e)
		}
	}
	for i, bad := range invalid() {
		if l, e := All(bad); e != api.ErrArg || l != nil {
			t.Error(i, l, e)
		}
	}
}

// P19.1: the routes of lines in no set, in one, in two and in all three, and of lines that are not valid.
func TestRoutes(t *testing.T) {
	o := some()
	o.List = append(api.Lines{sp("a", 1, 4)}, o.List[1:]...)
	for _, x := range []struct {
		path string
		n    int
		want []int
	}{
		{"a", 0, []int{api.RouteIn}},
		{"a", 1, []int{api.RouteIn, api.RouteBy, api.RouteList}},
		{"a", 2, []int{api.RouteBy, api.RouteList}},
		{"a", 3, []int{api.RouteList}},
		{"a", 4, []int{api.RouteIn}},
		{"a", 5, nil},
		{"b", 0, []int{api.RouteIn, api.RouteList}},
		{"c", 8, []int{api.RouteBy}},
		{"c", 9, nil},
		{"d", api.MaxLines - 1, []int{api.RouteList}},
		{"d", api.MaxLines, nil},
		{"d", -1, nil},
		{"e", 0, nil},
		{"", 0, nil},
	} {
		if l := Routes(o, api.Line{Path: x.path, N: x.n}); !slices.Equal(l, x.want) {
			t.Error(x.path, x.n, l)
		}
	}
	if l := Routes(api.Origin{}, api.Line{Path: "a"}); l != nil {
		t.Error(l)
	}
	for i, bad := range invalid() {
		for _, x := range []api.Line{{Path: "a", N: 0}, {Path: "a", N: 1}, {Path: "b", N: 0}, {Path: "c", N: 7}, {Path: "d", N: 5}} {
			if l := Routes(bad, x); l != nil {
				t.Error(i, x, l)
			}
		}
	}
}

// someLines returns a valid set at random.
func someLines(r *rand.Rand) api.Lines {
	var l []api.Line
	for range r.Intn(9) {
		l = append(l, api.Line{Path: string([]byte{byte('a' + r.Intn(2))}), N: r.Intn(6)})
	}
	set, _ := lineset.Of(l)
	return set
}

// someOrigin returns a valid origin at random.
func someOrigin(r *rand.Rand) api.Origin {
	return api.Origin{In: someLines(r), By: someLines(r), List: someLines(r)}
}

// P19.1: the operations, line by line.
func TestLineByLine(t *testing.T) {
	r := rand.New(rand.NewSource(1))
	for range 2000 {
		a, b := someOrigin(r), someOrigin(r)
		u, _ := Union(a, b)
		all, _ := All(a)
		through := map[int]api.Origin{}
		for route := api.RouteIn; route <= api.RouteList; route++ {
			through[route], _ = Through(a, route)
		}
		for i := range 16 {
			x := api.Line{Path: string([]byte{byte('a' + i%2)}), N: i/2 - 1}
			ofA, ofB := Routes(a, x), Routes(b, x)
			both := append(slices.Clone(ofA), ofB...)
			slices.Sort(both)
			if !slices.Equal(Routes(u, x), slices.Compact(both)) || lineset.Has(all, x) != (len(ofA) > 0) || !slices.Equal(Routes(through[api.RouteIn], x), ofA) {
				t.Fatal(a, b, x)
			}
			var by, list []int
			if len(ofA) > 0 {
				by = []int{api.RouteBy}
			}
			if slices.Contains(ofA, api.RouteBy) {
				list = append(list, api.RouteBy)
			}
			if slices.Contains(ofA, api.RouteIn) || slices.Contains(ofA, api.RouteList) {
				list = append(list, api.RouteList)
			}
			if !slices.Equal(Routes(through[api.RouteBy], x), by) || !slices.Equal(Routes(through[api.RouteList], x), list) {
				t.Fatal(a, x, through)
			}
		}
	}
}

// P19.1: arguments are not changed, also behind their ends, and results share no memory with them.
func TestMemory(t *testing.T) {
	r := rand.New(rand.NewSource(2))
	long := func(l api.Lines) api.Lines { return append(slices.Clone(l), sp("x", 0, 1), sp("y", 0, 1))[:len(l)] }
	scratch := func(l api.Lines) {
		for i := range l {
			l[i] = sp("Q", 9, 8)
		}
	}
	for range 200 {
		a, b := someOrigin(r), someOrigin(r)
		x, y := api.Origin{In: long(a.In), By: long(a.By), List: long(a.List)}, api.Origin{In: long(b.In), By: long(b.By), List: long(b.List)}
		u, _ := Union(x, y)
		all, _ := All(x)
		results := []api.Lines{u.In, u.By, u.List, all}
		for route := api.RouteIn; route <= api.RouteList; route++ {
			o, _ := Through(x, route)
			results = append(results, o.In, o.By, o.List)
		}
		for _, l := range results {
			scratch(l[:cap(l)])
		}
		for _, l := range []api.Lines{x.In, x.By, x.List, y.In, y.By, y.List} {
			end := l[:len(l)+2]
			if !slices.Equal(end[len(l):], api.Lines{sp("x", 0, 1), sp("y", 0, 1)}) {
				t.Fatal(end)
			}
		}
		if !same(x, a) || !same(y, b) {
			t.Fatal(x, a)
		}
	}
}
