// Package linkage belongs to no layer: it reads files as the arguments of a link, for the layers that build distributions, and that follow builds.
package linkage

import (
	"licit/api"
	"licit/binary"
	"licit/object"
)

// Objects returns the objects of files, named by their paths: ErrCorrupt, if a file is not the bytes of one.
func Objects(files []api.File) ([]api.Member, api.Errno) {
	var l []api.Member
	for _, f := range files {
		o, e := object.Decode(f.Data)
		if e != api.OK {
			return nil, e
		}
		l = append(l, api.Member{Name: f.Path, Object: o})
	}
	return l, api.OK
}

// Using returns the archives and the shared libraries of files, both in order: ErrCorrupt, if a file is not the bytes of one of them.
func Using(files []api.File) ([]api.Shelf, []api.Library, api.Errno) {
	var shelves []api.Shelf
	var libs []api.Library
	for _, f := range files {
		if m, e := object.Unpack(f.Data); e == api.OK {
			shelves = append(shelves, api.Shelf{Path: f.Path, Members: m})
			continue
		}
		b, e := binary.Decode(f.Data)
		if e != api.OK || b.Kind != api.Shared {
			return nil, nil, api.ErrCorrupt
		}
		libs = append(libs, api.Library{Path: f.Path, Binary: b})
	}
	return shelves, libs, api.OK
}
