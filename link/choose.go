package link

import (
	"licit/api"
	"licit/object"
)

// part is a symbol of a file: the section that it has there, or what it means there.
type part struct {
	file   int
	symbol string
}

// target is what the word of a relocation stands for: a section of the list, or, if there is a library, an import of it.
type target struct {
	section int
	library string
}

// choice is what a binary consists of.
type choice struct {
	list  []part          // the sections, in order
	meant map[part]target // what their relocations mean
}

// section returns the section of a part.
func (r *resolver) section(p part) api.Section {
	o := r.files[p.file].Object
	s, _ := object.Find(o, p.symbol)
	return o.Sections[s.Section]
}

// needs returns the symbols that the section of a part mentions, in order, each once.
func (r *resolver) needs(p part) []string {
	o := r.files[p.file].Object
	s, _ := object.Find(o, p.symbol)
	return object.Needs(o, s.Section)
}

// choose selects the sections of a binary, given the symbols of the first ones: ErrTwice or ErrUnknown, if a symbol is not found; ErrTooLarge, if there would be more than MaxSections sections.
func (r *resolver) choose(first []string) (choice, api.Errno) {
	c := choice{meant: map[part]target{}}
	listed := map[part]int{}
	add := func(p part) (target, api.Errno) {
		i, found := listed[p]
		if !found {
			if len(c.list) == api.MaxSections {
				return target{}, api.ErrTooLarge
			}
			i = len(c.list)
			listed[p] = i
			c.list = append(c.list, p)
		}
		return target{section: i}, api.OK
	}
	for _, symbol := range first {
		if _, e := r.found(symbol, add); e != api.OK {
			return choice{}, e
		}
	}
	// the list grows while it is walked
	for i := 0; i < len(c.list); i++ {
		for _, symbol := range r.needs(c.list[i]) {
			mention := part{c.list[i].file, symbol}
			if _, known := c.meant[mention]; known {
				continue
			}
			t, e := r.meaning(mention, add)
			if e != api.OK {
				return choice{}, e
			}
			c.meant[mention] = t
		}
	}
	return c, api.OK
}

// found returns the target that a symbol stands for wherever it is not private, given a function that adds a section to the list.
func (r *resolver) found(symbol string, add func(p part) (target, api.Errno)) (target, api.Errno) {
	file, path, e := r.resolve(symbol)
	if e != api.OK || path != "" {
		return target{library: path}, e
	}
	return add(part{file, symbol})
}

// meaning returns the target that a symbol stands for in a file that mentions it, given a function that adds a section to the list.
func (r *resolver) meaning(mention part, add func(p part) (target, api.Errno)) (target, api.Errno) {
	s, _ := object.Find(r.files[mention.file].Object, mention.symbol)
	switch {
	case s.Mode != api.Private:
		return r.found(mention.symbol, add)
	case s.Section == -1:
		return target{}, api.ErrUnknown
	}
	return add(mention)
}
