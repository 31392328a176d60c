package link

import "licit/api"

// wordSize is the number of bytes of a word; sections begin at its multiples.
const wordSize = 4

// binary returns the binary of a kind whose list of sections begins with those of some symbols: the first error of selecting sections; ErrTooLarge, if its image would be too large.
func (r *resolver) binary(kind, entry int, first []string) (api.Binary, api.Errno) {
	c, e := r.choose(first)
	if e != api.OK {
		return api.Binary{}, e
	}
	b := api.Binary{Kind: kind, Entry: entry, Places: r.places(c)}
	last := b.Places[len(b.Places)-1]
	size := last.At + last.Size
	if size > api.MaxData {
		return api.Binary{}, api.ErrTooLarge
	}
	image := make([]byte, size)
	for i, p := range c.list {
		s, from := r.section(p), b.Places[i].At
		copy(image[from:], s.Data)
		for _, word := range s.Relocs {
			at := from + word.At
			t := c.meant[part{p.file, word.Symbol}]
			if t.library != "" {
				b.Imports = append(b.Imports, api.Import{Library: t.library, Symbol: word.Symbol, At: at})
				continue
			}
			putWord(image[at:], b.Places[t.section].At)
			b.Fixups = append(b.Fixups, at)
		}
	}
	b.Image = string(image)
	return b, api.OK
}

// places returns the places of the sections, one behind the other.
func (r *resolver) places(c choice) []api.Placed {
	var places []api.Placed
	end := 0
	for _, p := range c.list {
		s := r.section(p)
		// bytes are left free up to the next multiple
		at := (end + wordSize - 1) / wordSize * wordSize
		places = append(places, api.Placed{Object: r.files[p.file].Name, Symbol: p.symbol, Kind: s.Kind, At: at, Size: len(s.Data)})
		end = at + len(s.Data)
	}
	return places
}

// putWord writes a word, the lowest byte first.
func putWord(bytes []byte, word int) {
	for i := range wordSize {
		bytes[i] = byte(word >> (8 * i))
	}
}
