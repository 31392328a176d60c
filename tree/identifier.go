package tree

import (
	"slices"
	"strings"

	"licit/api"
	"licit/codec"
	"licit/digest"
)

// ID returns the identifier of a tree: ErrArg, if it is not one.
func ID(t api.Tree) (string, api.Errno) {
	if Check(t) != api.OK {
		return "", api.ErrArg
	}
	return directoryID(t), api.OK
}

// fileID returns the identifier of a file.
func fileID(data string) string {
	s := digest.New()
	s.Write("f", data)
	return s.Sum()
}

// directoryID returns the identifier of the directory that consists of some files.
func directoryID(t api.Tree) string {
	entries := entriesOf(t)
	var names []string
	for name := range entries {
		names = append(names, name)
	}
	// the order of the paths is not that of the name parts: a-b comes before a/x
	slices.Sort(names)
	var list []string
	for _, name := range names {
		list = append(list, name, entryID(entries[name]))
	}
	// a tree has too few files, and too short name parts, for an error
	bytes, _ := codec.Texts(list)
	return digest.Sum("d" + bytes)
}

// entriesOf returns the files of each entry of a directory by its name part, with the rests of their paths. An entry that is a file has this file alone, without a rest.
func entriesOf(t api.Tree) map[string]api.Tree {
	entries := map[string]api.Tree{}
	for _, f := range t {
		name, rest, _ := strings.Cut(f.Path, "/")
		entries[name] = append(entries[name], api.File{Path: rest, Data: f.Data})
	}
	return entries
}

// entryID returns the identifier of an entry.
func entryID(files api.Tree) string {
	if files[0].Path == "" {
		return fileID(files[0].Data)
	}
	return directoryID(files)
}

// Differ returns the changes from one tree to another one: ErrArg, if one of them is not a tree.
func Differ(a, b api.Tree) ([]api.Change, api.Errno) {
	if Check(a) != api.OK || Check(b) != api.OK {
		return nil, api.ErrArg
	}
	var paths []string
	for _, f := range slices.Concat(a, b) {
		paths = append(paths, f.Path)
	}
	slices.Sort(paths)
	var changes []api.Change
	for _, path := range slices.Compact(paths) {
		if c := changeAt(a, b, path); c.Kind != 0 {
			changes = append(changes, c)
		}
	}
	return changes, api.OK
}

// changeAt returns the change at a path of at least one tree, without a kind if there is none.
func changeAt(a, b api.Tree, path string) api.Change {
	before, inA := Find(a, path)
	after, inB := Find(b, path)
	switch {
	case !inA:
		return api.Change{Path: path, Kind: api.Added, New: fileID(after)}
	case !inB:
		return api.Change{Path: path, Kind: api.Removed, Old: fileID(before)}
	case before != after:
		return api.Change{Path: path, Kind: api.Changed, Old: fileID(before), New: fileID(after)}
	}
	return api.Change{}
}
