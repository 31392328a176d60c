package rebuild

import (
	"cmp"
	"slices"
	"strings"

	"licit/api"
	"licit/build"
	"licit/tree"
)

// Edit returns a distribution in which lines are replaced: the error of build.Check; the first fault of the edits, ErrNotFound, ErrRange, ErrSyntax or ErrTwice; ErrTooLarge, if a file would be too long.
func Edit(d api.Distribution, l []api.Edit) (api.Distribution, api.Errno) {
	if e := build.Check(d); e != api.OK {
		return nil, e
	}
	files, e := replace(d, l)
	if e != api.OK {
		return nil, e
	}
	edited := slices.Clone(d)
	for i, p := range d {
		edited[i].Tree = slices.Clone(p.Tree)
		for j, f := range p.Tree {
			lines, replaced := files[fullPath(p, f)]
			if !replaced {
				continue
			}
			data := strings.Join(lines, "\n")
			if len(data) > api.MaxData {
				return nil, api.ErrTooLarge
			}
			edited[i].Tree[j].Data = data
		}
	}
	return edited, api.OK
}

// replace returns the lines of those files, by full path, that have edits: the first fault of the edits.
func replace(d api.Distribution, l []api.Edit) (map[string][]string, api.Errno) {
	files := map[string][]string{}
	edited := map[api.Line]bool{}
	for _, x := range l {
		lines, replaced := files[x.At.Path]
		if !replaced {
			data, found := find(d, x.At.Path)
			if !found {
				return nil, api.ErrNotFound
			}
			lines = strings.Split(data, "\n")
			files[x.At.Path] = lines
		}
		switch {
		case x.At.N < 0 || x.At.N >= len(lines):
			return nil, api.ErrRange
		case strings.Contains(x.Text, "\n"):
			return nil, api.ErrSyntax
		case edited[x.At]:
			return nil, api.ErrTwice
		}
		edited[x.At] = true
		lines[x.At.N] = x.Text
	}
	return files, api.OK
}

// find returns the data of the file with a full path, and whether there is one.
func find(d api.Distribution, path string) (string, bool) {
	for _, p := range d {
		if own, inside := strings.CutPrefix(path, p.Name+"/"); inside {
			return tree.Find(p.Tree, own)
		}
	}
	return "", false
}

// fullPath returns the full path of a file of a package.
func fullPath(p api.Package, f api.File) string { return p.Name + "/" + f.Path }

// Between returns the edits that lead from one distribution to another one: the error of build.Check for the first or the second one; ErrMismatch, if they do not have the same shape.
func Between(a, b api.Distribution) ([]api.Edit, api.Errno) {
	if e := build.Check(a); e != api.OK {
		return nil, e
	}
	if e := build.Check(b); e != api.OK {
		return nil, e
	}
	if !slices.EqualFunc(a, b, haveOneShape) {
		return nil, api.ErrMismatch
	}
	var edits []api.Edit
	for i, p := range a {
		for j, f := range p.Tree {
			edits = append(edits, between(fullPath(p, f), f.Data, b[i].Tree[j].Data)...)
		}
	}
	// neither packages nor the paths of two of them need to be in order
	slices.SortFunc(edits, func(x, y api.Edit) int {
		return cmp.Or(strings.Compare(x.At.Path, y.At.Path), cmp.Compare(x.At.N, y.At.N))
	})
	return edits, api.OK
}

// haveOneShape says whether two packages differ in nothing but what their lines are.
func haveOneShape(p, q api.Package) bool {
	return p.Name == q.Name && p.Version == q.Version && p.Recipe == q.Recipe && slices.EqualFunc(p.Tree, q.Tree, func(f, g api.File) bool {
		return f.Path == g.Path && strings.Count(f.Data, "\n") == strings.Count(g.Data, "\n")
	})
}

// between returns the edits from the data of a file to other data with as many lines.
func between(path, from, to string) []api.Edit {
	var edits []api.Edit
	lines := strings.Split(to, "\n")
	for n, line := range strings.Split(from, "\n") {
		if line != lines[n] {
			edits = append(edits, api.Edit{At: api.Line{Path: path, N: n}, Text: lines[n]})
		}
	}
	return edits
}
