package link

import (
	"slices"

	"licit/api"
	"licit/object"
	"licit/token"
	"licit/tree"
)

// areArguments says whether the arguments of a link are valid.
func areArguments(objects []api.Member, shelves []api.Shelf, libs []api.Library) bool {
	return areMembers(objects) && areShelves(shelves) && areLibraries(libs)
}

// areNamed says whether a list has at most MaxFiles elements, whose names are paths, all of them different.
func areNamed[T any](l []T, name func(x T) string) bool {
	if len(l) > api.MaxFiles {
		return false
	}
	seen := map[string]bool{}
	for _, x := range l {
		n := name(x)
		if tree.Path(n) != api.OK || seen[n] {
			return false
		}
		seen[n] = true
	}
	return true
}

// areMembers says whether objects can be linked together, or make up an archive.
func areMembers(l []api.Member) bool {
	return areNamed(l, func(m api.Member) string { return m.Name }) &&
		!slices.ContainsFunc(l, func(m api.Member) bool { return object.Check(m.Object) != api.OK })
}

// areShelves says whether archives are valid, and can be linked together.
func areShelves(l []api.Shelf) bool {
	return areNamed(l, func(s api.Shelf) string { return s.Path }) &&
		!slices.ContainsFunc(l, func(s api.Shelf) bool { return !areMembers(s.Members) })
}

// areLibraries says whether libraries can be linked together.
func areLibraries(l []api.Library) bool {
	return areNamed(l, func(x api.Library) string { return x.Path }) &&
		!slices.ContainsFunc(l, func(x api.Library) bool { return !isShared(x.Binary) })
}

// isShared says whether a binary is a shared library with an export list. Nothing else of it matters for a link.
func isShared(b api.Binary) bool {
	for i, x := range b.Exports {
		if !token.Name(x.Symbol) || i > 0 && x.Symbol <= b.Exports[i-1].Symbol {
			return false
		}
	}
	return b.Kind == api.Shared
}
