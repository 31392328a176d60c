package tree

import (
	"slices"
	"strings"
	"testing"

	"licit/api"
	"licit/digest"
)

// eachTree passes all trees with some of a few paths, and one of two data each, to a function.
func eachTree(use func(api.Tree)) {
	paths := []string{"a", "a-b", "a/b", "a/b/c", "a0", "b/a"}
	var grow func(files api.Tree, next int)
	grow = func(files api.Tree, next int) {
		if next == len(paths) {
			if Check(files) == api.OK {
				use(slices.Clone(files))
			}
			return
		}
		grow(files, next+1)
		for _, data := range []string{"", "x\ny"} {
			grow(append(slices.Clone(files), api.File{Path: paths[next], Data: data}), next+1)
		}
	}
	grow(nil, 0)
}

// P3.1: Check accepts just the lists that fulfil the definition.
func TestCheckByDefinition(t *testing.T) {
	paths := []string{"a", "a-b", "a/b", "a/b/c", "A"}
	var grow func(files api.Tree)
	grow = func(files api.Tree) {
		right := true
		for i, f := range files {
			right = right && f.Path != "A"
			for _, g := range files[:i] {
				right = right && g.Path < f.Path && !strings.HasPrefix(f.Path, g.Path+"/")
			}
		}
		if (Check(files) == api.OK) != right {
			t.Error(files)
		}
		if len(files) == 4 {
			return
		}
		for _, path := range paths {
			grow(append(slices.Clone(files), api.File{Path: path}))
		}
	}
	grow(nil)
}

// P3.6: what was put is found, and dropping it leads back if it was not there.
func TestPutAndDrop(t *testing.T) {
	eachTree(func(files api.Tree) {
		for _, path := range []string{"a", "a-b", "a/b", "a/bb", "b", "b/a", "c"} {
			after, e := Put(files, api.File{Path: path, Data: "new"})
			if e != api.OK {
				continue
			}
			data, found := Find(after, path)
			if !found || data != "new" || Check(after) != api.OK {
				t.Error(files, path)
			}
			back, e := Drop(after, path)
			want := without(files, path)
			if e != api.OK || !equal(back, want) {
				t.Error(files, path, back)
			}
		}
	})
}

// P3.6: Under undoes Mount, and the identifier of a mounted tree depends on that of the tree alone.
func TestMountLaws(t *testing.T) {
	empty, _ := ID(nil)
	eachTree(func(files api.Tree) {
		for _, dir := range []string{"a", "b/c"} {
			mounted, e := Mount(files, dir)
			if e != api.OK || !equal(Under(mounted, dir), files) || Check(mounted) != api.OK {
				t.Error(files, e)
			}
			want, _ := ID(files)
			// without files there is no directory either
			if want != empty {
				want = mountedID(want, dir)
			}
			if id, _ := ID(mounted); id != want {
				t.Error(files, dir)
			}
		}
	})
}

// mountedID returns the identifier of the directory that has a tree with an identifier at a path.
func mountedID(id, dir string) string {
	parts := strings.Split(dir, "/")
	for _, part := range slices.Backward(parts) {
		id = digest.Sum("d" + bytesOf(part, id))
	}
	return id
}

// P3.5 and P3.6: dropping what was removed, and putting what is new, leads from one tree to the other one; and each change is one.
func TestDifferLaws(t *testing.T) {
	var trees []api.Tree
	eachTree(func(files api.Tree) { trees = append(trees, files) })
	for i, a := range trees {
		for _, b := range trees[i%3:] {
			changes, e := Differ(a, b)
			if e != api.OK || len(changes) == 0 != equal(a, b) {
				t.Error(a, b, e)
			}
			if back := redo(a, b, changes); !equal(back, b) {
				t.Error(a, b, back)
			}
			for k, c := range changes {
				old, inA := Find(a, c.Path)
				new, inB := Find(b, c.Path)
				if inA && inB && old == new || inA != (c.Old != "") || inB != (c.New != "") || k > 0 && changes[k-1].Path >= c.Path {
					t.Error(a, b, c)
				}
			}
		}
	}
}

// redo drops the removed files of a tree, and then puts the new ones of another tree.
func redo(a, b api.Tree, changes []api.Change) api.Tree {
	for _, c := range changes {
		if c.Kind == api.Removed {
			a, _ = Drop(a, c.Path)
		}
	}
	for _, c := range changes {
		if c.Kind != api.Removed {
			data, _ := Find(b, c.Path)
			a, _ = Put(a, api.File{Path: c.Path, Data: data})
		}
	}
	return a
}

// P3.6: replacing a line keeps the number of lines, and all other lines.
func TestReplaceLaws(t *testing.T) {
	for _, data := range []string{"", "\n", "a\nb", "a\n\nb\n", "\n\n\n"} {
		before, _ := Lines(data)
		for n := range before {
			after, e := Replace(api.Tree{{Path: "a", Data: data}, {Path: "b", Data: data}}, api.Line{Path: "a", N: n}, "new")
			if e != api.OK || after[1].Data != data {
				t.Error(data, n, e)
				continue
			}
			lines, _ := Lines(after[0].Data)
			want := slices.Clone(before)
			want[n] = "new"
			if !slices.Equal(lines, want) {
				t.Error(data, n, lines)
			}
		}
	}
}
