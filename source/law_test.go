package source

import (
	"maps"
	"math/rand"
	"slices"
	"strconv"
	"strings"
	"testing"

	"licit/api"
	"licit/tree"
)

// model reads a unit by the words of the definition, into a unit whose lines are spans of one line each, in any order. It knows the errors of lines, but not their bounds.
type model struct {
	t       api.Tree
	defined map[string]*api.Macro // nil for a flag
	u       api.Unit
	f       api.Fault
}

// fail keeps the first fault.
func (m *model) fail(e api.Errno, path string, n int) bool {
	if m.f.Error == api.OK {
		m.f = fault(e, path, n)
	}
	return false
}

// read reads the lines of a file, of which the last one is before an end, and returns whether there is no error.
func (m *model) read(open []string, from, end int) bool {
	path := open[len(open)-1]
	data, _ := tree.Find(m.t, path)
	lines := strings.Split(data, "\n")
	if end < 0 {
		end = len(lines)
	}
	if from == end {
		return true
	}
	m.u.Heads = append(m.u.Heads, api.Span{Path: path, From: from, To: from + 1})
	h, e := Parse(lines[from])
	if e != api.OK {
		return m.fail(e, path, from)
	}
	next := from + 1 + h.N
	if next > end {
		return m.fail(api.ErrShort, path, from)
	}
	return m.do(open, from, h) && m.read(open, next, end)
}

// do does what a head says.
func (m *model) do(open []string, n int, h api.Head) bool {
	path := open[len(open)-1]
	body := api.Span{Path: path, From: n + 1, To: n + 1 + h.N}
	_, defined := m.defined[h.Name]
	switch h.Word {
	case api.HeadInclude:
		return m.include(open, n, h.Name)
	case api.HeadWhen, api.HeadUnless:
		return defined == (h.Word == api.HeadUnless) || m.read(open, body.From, body.To)
	case api.HeadDefine:
		if defined {
			return m.fail(api.ErrTwice, path, n)
		}
		m.defined[h.Name] = &api.Macro{Name: h.Name, Params: h.Params, Body: body}
	case api.HeadUndef:
		if !defined {
			return m.fail(api.ErrNotFound, path, n)
		}
		delete(m.defined, h.Name)
	case api.HeadExtern, api.HeadFn, api.HeadData:
		for _, i := range m.u.Items {
			if i.Name == h.Name {
				return m.fail(api.ErrTwice, path, n)
			}
		}
		item := api.Item{Name: h.Name, Kind: api.ItemExtern, Mode: api.Extern}
		if h.Word == api.HeadFn {
			item = api.Item{Name: h.Name, Kind: api.ItemFn, Mode: h.Mode, Params: h.Params, Body: body}
		}
		if h.Word == api.HeadData {
			item = api.Item{Name: h.Name, Kind: api.ItemData, Mode: h.Mode, Body: body}
		}
		m.u.Items = append(m.u.Items, item)
	}
	return true
}

// include reads the file that a reference denotes.
func (m *model) include(open []string, n int, ref string) bool {
	path := open[len(open)-1]
	file, e := Reference(strings.Split(path, "/")[0], ref)
	if e != api.OK {
		return m.fail(e, path, n)
	}
	if slices.Contains(open, file) {
		return m.fail(api.ErrLoop, path, n)
	}
	if _, found := tree.Find(m.t, file); !found {
		return m.fail(api.ErrNotFound, path, n)
	}
	m.u.Files = append(m.u.Files, file)
	return m.read(append(slices.Clone(open), file), 0, -1)
}

// scan returns the unit of the model, with its parts in order.
func (m *model) scan(path string, flags []string) (api.Unit, api.Fault) {
	m.defined = map[string]*api.Macro{}
	for _, f := range flags {
		m.defined[f] = nil
	}
	m.u = api.Unit{Path: path, Files: []string{path}}
	if !m.read([]string{path}, 0, -1) {
		return api.Unit{}, m.f
	}
	for _, name := range slices.Sorted(maps.Keys(m.defined)) {
		if macro := m.defined[name]; macro != nil {
			m.u.Macros = append(m.u.Macros, *macro)
		} else {
			m.u.Flags = append(m.u.Flags, name)
		}
	}
	slices.Sort(m.u.Files)
	m.u.Files = slices.Compact(m.u.Files)
	return m.u, api.Fault{}
}

// linesIn returns which lines spans contain.
func linesIn(spans api.Lines) map[api.Line]bool {
	set := map[api.Line]bool{}
	for _, s := range spans {
		for n := s.From; n < s.To; n++ {
			set[api.Line{Path: s.Path, N: n}] = true
		}
	}
	return set
}

// isSet says whether spans are in the form of a set of lines.
func isSet(spans api.Lines) bool {
	for i, s := range spans {
		if s.From >= s.To {
			return false
		}
		if i > 0 && (s.Path < spans[i-1].Path || s.Path == spans[i-1].Path && s.From <= spans[i-1].To) {
			return false
		}
	}
	return true
}

// randomLine returns a line; most of them are head lines.
func randomLine(r *rand.Rand) string {
	pick := func(l ...string) string { return l[r.Intn(len(l))] }
	name, n := pick("x", "y", "z", "v", "w"), strconv.Itoa(r.Intn(4))
	switch r.Intn(24) {
	case 0, 1, 2:
		return "include " + pick("m", "k", "d/k", "@b/k", "@a/k", "@b/m", "q")
	case 3, 4, 5, 6:
		return pick("when ", "unless ") + name + " " + n
	case 7, 8:
		return "define " + name + pick("", " p", " p q") + " " + n
	case 9:
		return "undef " + name
	case 10:
		return "note " + n
	case 11, 12:
		return "extern " + name
	case 13, 14:
		return pick("", "export ", "weak ") + "fn " + name + pick("", " x", " y x") + " " + n
	case 15, 16:
		return pick("", "export ", "weak ") + "data " + name + " " + n
	case 17:
		return pick("?", "fn", "fn 1 1", "data d 2000", "fn f a a 1")
	}
	return ""
}

// randomTree returns a tree of six files of two packages.
func randomTree(r *rand.Rand) api.Tree {
	var t api.Tree
	for _, path := range []string{"a/d/k", "a/k", "a/m", "b/d/k", "b/k", "b/m"} {
		lines := make([]string, 1+r.Intn(10))
		for i := range lines {
			lines[i] = randomLine(r)
		}
		t = append(t, api.File{Path: path, Data: strings.Join(lines, "\n")})
	}
	return t
}

// eachUnit passes random trees with flags to a function, together with what Scan makes of a/m of them.
func eachUnit(seed int64, times int, use func(t api.Tree, flags []string, u api.Unit, f api.Fault)) {
	r := rand.New(rand.NewSource(seed))
	for range times {
		t := randomTree(r)
		flags := [][]string{nil, {"x"}, {"y", "x"}, {"z", "w", "u"}}[r.Intn(4)]
		u, f := Scan(t, "a/m", flags)
		use(t, flags, u, f)
	}
}

// P6.2: the unit, or the fault, is that of the definition.
func TestScanByDefinition(t *testing.T) {
	good := 0
	eachUnit(1, 40000, func(files api.Tree, flags []string, u api.Unit, f api.Fault) {
		m := &model{t: files}
		want, fault := m.scan("a/m", flags)
		if f != fault {
			t.Fatal(files, flags, f, fault)
		}
		if !isSet(u.Heads) || !maps.Equal(linesIn(u.Heads), linesIn(want.Heads)) {
			t.Fatal(files, flags, u.Heads, want.Heads)
		}
		u.Heads, want.Heads = nil, nil
		if show(u) != show(want) || u.Path != want.Path {
			t.Fatal(files, flags, show(u), show(want))
		}
		if f.Error == api.OK {
			good++
		}
	})
	if good < 4000 {
		t.Error(good)
	}
}

// P6.3: lines that were not read can be any others.
func TestLinesThatWereNotRead(t *testing.T) {
	changed := 0
	eachUnit(2, 6000, func(files api.Tree, flags []string, u api.Unit, f api.Fault) {
		read := linesIn(u.Heads)
		for _, file := range files {
			for n := range strings.Count(file.Data, "\n") + 1 {
				line := api.Line{Path: file.Path, N: n}
				if f.Error != api.OK || read[line] {
					continue
				}
				changed++
				for _, text := range []string{"", "?", "include m"} {
					other, _ := tree.Replace(files, line, text)
					if again, f := Scan(other, "a/m", flags); f.Error != api.OK || show(again) != show(u) {
						t.Fatal(files, flags, line, f, show(again), show(u))
					}
				}
			}
		}
	})
	if changed < 4000 {
		t.Error(changed)
	}
}

// P6.3: the heads of items and macros were read, and no line of a body was.
func TestHeadsAndBodies(t *testing.T) {
	eachUnit(3, 20000, func(files api.Tree, flags []string, u api.Unit, f api.Fault) {
		read := linesIn(u.Heads)
		bodies := api.Lines{}
		for _, m := range u.Macros {
			bodies = append(bodies, m.Body)
		}
		for _, i := range u.Items {
			if i.Kind != api.ItemExtern {
				bodies = append(bodies, i.Body)
			}
		}
		for _, b := range bodies {
			if !read[api.Line{Path: b.Path, N: b.From - 1}] {
				t.Fatal(files, flags, show(u))
			}
		}
		for line := range linesIn(bodies) {
			if read[line] {
				t.Fatal(files, flags, line, show(u))
			}
		}
		for line := range read {
			if !slices.Contains(u.Files, line.Path) {
				t.Fatal(files, flags, line, show(u))
			}
		}
	})
}

// P6.3: the order of the flags does not matter, nor does a flag that no head mentions, but for Flags.
func TestFlags(t *testing.T) {
	eachUnit(4, 20000, func(files api.Tree, flags []string, u api.Unit, f api.Fault) {
		other := append([]string{"other"}, flags...)
		slices.Reverse(other)
		v, f2 := Scan(files, "a/m", other)
		if f2 != f || f.Error == api.OK && !slices.Contains(v.Flags, "other") {
			t.Fatal(files, flags, f, f2, v.Flags)
		}
		v.Flags = slices.DeleteFunc(v.Flags, func(s string) bool { return s == "other" })
		if show(v) != show(u) {
			t.Fatal(files, flags, show(v), show(u))
		}
	})
}

// spoil overwrites strings, and what can stand behind them in their memory.
func spoil(list []string) {
	list = list[:cap(list)]
	for i := range list {
		list[i] = "spoilt"
	}
}

// P6.1, P6.2: arguments are not changed, and no two slices of results share memory.
func TestFreshMemory(t *testing.T) {
	source := files("a/m", "fn f a b 0|fn g c 0|define m d e 0|define k f 0|include k|include k", "a/k", "")
	flags := []string{"y", "x"}
	u, _ := Scan(source, "a/m", flags)
	v, _ := Scan(source, "a/m", flags)
	want := show(v)
	item, _ := Find(u, "f")
	spoil(item.Params)
	if show(u) != want || !slices.Equal(flags, []string{"y", "x"}) {
		t.Error(show(u), flags)
	}
	for i := range u.Items {
		spoil(u.Items[i].Params)
		u.Items[i].Params = slices.Clone(v.Items[i].Params)
		if show(u) != want {
			t.Error(show(u))
		}
	}
	for i := range u.Macros {
		spoil(u.Macros[i].Params)
		u.Macros[i].Params = slices.Clone(v.Macros[i].Params)
		if show(u) != want {
			t.Error(show(u))
		}
	}
	spoil(u.Flags)
	spoil(u.Files)
	if again, _ := Scan(source, "a/m", flags); show(again) != want || !slices.Equal(flags, []string{"y", "x"}) {
		t.Error(show(again), flags)
	}
	h, _ := Parse("fn f a b 1")
	line, _ := Print(h)
	spoil(h.Params)
	if again, _ := Parse(line); again.Params[0] != "a" {
		t.Error(again)
	}
}
