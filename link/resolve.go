package link

import (
	"maps"
	"slices"

	"licit/api"
	"licit/object"
)

// search finds symbols in tables. A table is read only if a symbol is in none of those before it, so that it is known which ones a link depends on.
type search struct {
	tables int                  // how many there are
	read   int                  // how many of them were read
	first  map[string]int       // in which of these each symbol occurs first
	names  func(i int) []string // the symbols of a table
}

// newSearch returns a search in some tables, none of which was read.
func newSearch(tables int, names func(i int) []string) *search {
	return &search{tables: tables, first: map[string]int{}, names: names}
}

// find returns the first table in which a symbol occurs, and whether there is one.
func (s *search) find(symbol string) (int, bool) {
	for {
		i, found := s.first[symbol]
		if found || s.read == s.tables {
			return i, found
		}
		for _, name := range s.names(s.read) {
			if _, known := s.first[name]; !known {
				s.first[name] = s.read
			}
		}
		s.read++
	}
}

// twice stands for the object of a symbol that more than one exports.
const twice = -1

// resolver finds the symbols of a link, and remembers what was found.
type resolver struct {
	files   []api.Member   // the objects, and behind them the members of all archives, with the names that they have in a binary
	objects int            // how many of the files are objects
	defined map[string]int // the object in which each symbol is found, or twice
	members *search
	libs    []api.Library
	lists   *search
}

// newResolver returns a resolver that has read the objects alone.
func newResolver(objects []api.Member, shelves []api.Shelf, libs []api.Library) *resolver {
	files := slices.Clone(objects)
	for _, s := range shelves {
		for _, m := range s.Members {
			files = append(files, api.Member{Name: s.Path + "!" + m.Name, Object: m.Object})
		}
	}
	members := files[len(objects):]
	return &resolver{
		files:   files,
		objects: len(objects),
		defined: definitions(objects),
		members: newSearch(len(members), func(i int) []string { return object.Exports(members[i].Object) }),
		libs:    libs,
		lists:   newSearch(len(libs), func(i int) []string { return exported(libs[i].Binary) }),
	}
}

// definitions returns in which object each symbol is found that is Export or Weak in one: twice, if it is Export in more than one.
func definitions(objects []api.Member) map[string]int {
	strong, found := map[string]int{}, map[string]int{}
	for i, m := range objects {
		for _, s := range m.Object.Symbols {
			_, isStrong := strong[s.Name]
			_, isFound := found[s.Name]
			switch {
			case s.Mode == api.Export && isStrong:
				strong[s.Name] = twice
			case s.Mode == api.Export:
				strong[s.Name] = i
			case s.Mode == api.Weak && !isFound:
				found[s.Name] = i
			}
		}
	}
	maps.Copy(found, strong)
	return found
}

// exported returns the symbols of the export list of a library.
func exported(b api.Binary) []string {
	var names []string
	for _, x := range b.Exports {
		names = append(names, x.Symbol)
	}
	return names
}

// file returns the file in which a symbol is found: ErrTwice, if objects export it twice; ErrUnknown, if there is none. Libraries are not asked.
func (r *resolver) file(symbol string) (int, api.Errno) {
	if i, found := r.defined[symbol]; found {
		if i == twice {
			return 0, api.ErrTwice
		}
		return i, api.OK
	}
	i, found := r.members.find(symbol)
	if !found {
		return 0, api.ErrUnknown
	}
	return r.objects + i, api.OK
}

// resolve returns the file in which a symbol is found, or the path of the library: ErrTwice, if objects export it twice; ErrUnknown, if it is found nowhere.
func (r *resolver) resolve(symbol string) (int, string, api.Errno) {
	file, e := r.file(symbol)
	if e != api.ErrUnknown {
		return file, "", e
	}
	i, found := r.lists.find(symbol)
	if !found {
		return 0, "", api.ErrUnknown
	}
	return 0, r.libs[i].Path, api.OK
}

// exports returns the symbols that are Export or Weak in an object, in order.
func (r *resolver) exports() []string { return slices.Sorted(maps.Keys(r.defined)) }

// reading returns what was read.
func (r *resolver) reading() api.LinkReading {
	var read api.LinkReading
	for _, f := range r.files[:r.objects+r.members.read] {
		read.Tables = append(read.Tables, f.Name)
	}
	for _, l := range r.libs[:r.lists.read] {
		read.Lists = append(read.Lists, l.Path)
	}
	return read
}
