package source

import (
	"slices"
	"strings"

	"licit/api"
	"licit/span"
	"licit/tree"
)

// group is some lines of a file that are read one after the other.
type group struct {
	path     string
	lines    []string // of the whole file
	from, to int
	depth    int
	open     []string // the files that are being read, from that of the unit to this one
}

// reading is what is known of a unit while its lines are read.
type reading struct {
	tree   api.Tree
	flags  map[string]bool
	macros map[string]api.Macro
	items  []api.Item
	heads  []api.Span // one for each line, in the order in which they were read, some of them more than once
	files  []string   // likewise
}

// Scan reads a unit. The fault names the line whose head is wrong; the file, if it cannot be read; nothing, if an argument is wrong.
func Scan(t api.Tree, path string, flags []string) (api.Unit, api.Fault) {
	if e := checkArguments(t, path, flags); e != api.OK {
		return api.Unit{}, fault(e, "", -1)
	}
	r := &reading{tree: t, flags: map[string]bool{}, macros: map[string]api.Macro{}}
	for _, f := range flags {
		r.flags[f] = true
	}
	file, e := r.file(path)
	if e != api.OK {
		return api.Unit{}, fault(e, path, -1)
	}
	var read func(g group) api.Fault
	read = func(g group) api.Fault {
		for n := g.from; n < g.to; {
			h, inner, e := r.line(g, n)
			if e != api.OK {
				return fault(e, g.path, n)
			}
			if f := read(inner); f.Error != api.OK {
				return f
			}
			n += 1 + h.N
		}
		return api.Fault{}
	}
	if f := read(file); f.Error != api.OK {
		return api.Unit{}, f
	}
	return r.unit(path), api.Fault{}
}

// fault returns the fault of an error that has nothing to do with a recipe.
func fault(e api.Errno, path string, n int) api.Fault {
	return api.Fault{Error: e, Package: -1, Step: -1, At: api.Line{Path: path, N: n}}
}

// checkArguments returns the first error that has nothing to do with a file.
func checkArguments(t api.Tree, path string, flags []string) api.Errno {
	switch {
	case tree.Check(t) != api.OK:
		return api.ErrArg
	case !isInPackage(path) || !areNames(flags):
		return api.ErrName
	case hasTwice(flags):
		return api.ErrTwice
	case len(flags) > api.MaxSymbols:
		return api.ErrTooLarge
	}
	return api.OK
}

// file begins to read a file, with the group of all its lines: ErrNotFound, if there is none; ErrTooLarge, if it is not a text.
func (r *reading) file(path string) (group, api.Errno) {
	data, found := tree.Find(r.tree, path)
	if !found {
		return group{}, api.ErrNotFound
	}
	lines, e := tree.Lines(data)
	if e != api.OK {
		return group{}, e
	}
	r.files = append(r.files, path)
	return group{path: path, lines: lines, to: len(lines), open: []string{path}}, api.OK
}

// line reads a head line of a group and does what it says. It returns the head, and the group that has to be read next; that is empty for most of the heads.
func (r *reading) line(g group, n int) (api.Head, group, api.Errno) {
	if len(r.heads) == api.MaxHeads {
		return api.Head{}, group{}, api.ErrTooLarge
	}
	h, e := Parse(g.lines[n])
	if e != api.OK {
		return api.Head{}, group{}, e
	}
	if h.N > g.to-n-1 {
		return api.Head{}, group{}, api.ErrShort
	}
	r.heads = append(r.heads, api.Span{Path: g.path, From: n, To: n + 1})
	body := api.Span{Path: g.path, From: n + 1, To: n + 1 + h.N}
	var inner group
	switch h.Word {
	case api.HeadInclude:
		inner, e = r.include(g, h.Name)
	case api.HeadWhen, api.HeadUnless:
		inner, e = r.condition(g, h, body)
	case api.HeadDefine:
		e = r.define(api.Macro{Name: h.Name, Params: h.Params, Body: body})
	case api.HeadUndef:
		e = r.undefine(h.Name)
	case api.HeadExtern:
		e = r.add(api.Item{Name: h.Name, Kind: api.ItemExtern, Mode: api.Extern})
	case api.HeadFn:
		e = r.add(api.Item{Name: h.Name, Kind: api.ItemFn, Mode: h.Mode, Params: h.Params, Body: body})
	case api.HeadData:
		e = r.add(api.Item{Name: h.Name, Kind: api.ItemData, Mode: h.Mode, Body: body})
	}
	return h, inner, e
}

// include returns the lines of the file that a reference in a group denotes: ErrName, if it denotes no path; ErrLoop, if the file is being read; ErrNotFound or ErrTooLarge, if it cannot be read; ErrDeep, if it would be too deep.
func (r *reading) include(g group, ref string) (group, api.Errno) {
	path, e := Reference(packageOf(g.path), ref)
	if e != api.OK {
		return group{}, e
	}
	if slices.Contains(g.open, path) {
		return group{}, api.ErrLoop
	}
	inner, e := r.file(path)
	if e != api.OK {
		return group{}, e
	}
	inner.open = slices.Concat(g.open, inner.open)
	return deeper(inner, g)
}

// condition returns the lines of a group in a group, if they are read: ErrDeep, if they would be too deep.
func (r *reading) condition(g group, h api.Head, body api.Span) (group, api.Errno) {
	if r.isDefined(h.Name) != (h.Word == api.HeadWhen) {
		return group{}, api.OK
	}
	inner := g
	inner.from, inner.to = body.From, body.To
	return deeper(inner, g)
}

// deeper puts a group into another one: ErrDeep, if it would be too deep there.
func deeper(inner, outer group) (group, api.Errno) {
	if outer.depth == api.MaxDepth {
		return group{}, api.ErrDeep
	}
	inner.depth = outer.depth + 1
	return inner, api.OK
}

// isDefined says whether a name is that of a flag or a macro.
func (r *reading) isDefined(name string) bool {
	_, found := r.macros[name]
	return found || r.flags[name]
}

// define adds a macro: ErrTwice, if its name is defined; ErrTooLarge, if there is no room for it.
func (r *reading) define(m api.Macro) api.Errno {
	if r.isDefined(m.Name) {
		return api.ErrTwice
	}
	if len(r.macros) == api.MaxSymbols {
		return api.ErrTooLarge
	}
	r.macros[m.Name] = m
	return api.OK
}

// undefine removes a flag or a macro: ErrNotFound, if there is neither.
func (r *reading) undefine(name string) api.Errno {
	if !r.isDefined(name) {
		return api.ErrNotFound
	}
	delete(r.macros, name)
	delete(r.flags, name)
	return api.OK
}

// add adds an item: ErrTwice, if there is one with its name; ErrTooLarge, if there is no room for it.
func (r *reading) add(i api.Item) api.Errno {
	if indexOf(r.items, i.Name) >= 0 {
		return api.ErrTwice
	}
	if len(r.items) == api.MaxSymbols {
		return api.ErrTooLarge
	}
	r.items = append(r.items, i)
	return api.OK
}

// unit returns what was read, in the order that its parts have.
func (r *reading) unit(path string) api.Unit {
	u := api.Unit{Path: path, Items: r.items, Heads: span.Set(r.heads)}
	for name := range r.flags {
		u.Flags = append(u.Flags, name)
	}
	slices.Sort(u.Flags)
	for _, m := range r.macros {
		u.Macros = append(u.Macros, m)
	}
	slices.SortFunc(u.Macros, func(a, b api.Macro) int { return strings.Compare(a.Name, b.Name) })
	slices.Sort(r.files)
	u.Files = slices.Compact(r.files)
	return u
}
