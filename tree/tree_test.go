package tree

import (
	"slices"
	"strings"
	"testing"

	"licit/api"
)

// noTrees returns lists of files that are not trees, one for each reason.
func noTrees() []api.Tree {
	return []api.Tree{
		numbered(api.MaxFiles+1, ""), named("A"), named("b", "a"), named("a", "a"), named("a", "a-b", "a/b"),
		{{Path: "a", Data: strings.Repeat("x", api.MaxData+1)}},
	}
}

// equal says whether two trees have the same files.
func equal(a, b api.Tree) bool { return slices.Equal(a, b) }

// P3.2: a file is found by its whole path, in any list the first one.
func TestFind(t *testing.T) {
	files := named("a-b", "a/x", "b")
	for _, x := range []struct {
		files api.Tree
		path  string
		data  string
		found bool
	}{
		{files, "a-b", "data of a-b", true},
		{files, "a/x", "data of a/x", true},
		{files, "b", "data of b", true},
		{files, "a", "", false},
		{files, "x", "", false},
		{files, "a/", "", false},
		{files, "", "", false},
		{nil, "a", "", false},
		{nil, "", "", false},
		{api.Tree{{Path: "a"}}, "a", "", true},
		{api.Tree{{Path: "b", Data: "1"}, {Path: "a", Data: "2"}, {Path: "b", Data: "3"}}, "b", "1", true},
		{api.Tree{{Path: "A\n", Data: "1"}, {Path: "", Data: "2"}}, "", "2", true},
		{append(numbered(api.MaxFiles, "x"), named("z")...), "z", "data of z", true},
	} {
		if data, found := Find(x.files, x.path); data != x.data || found != x.found {
			t.Error(x.path, data, found)
		}
	}
}

// P3.2: a file is added in its place, or replaces the one with its path.
func TestPut(t *testing.T) {
	for _, x := range []struct {
		files api.Tree
		path  string
		want  []string
	}{
		{nil, "a", []string{"a"}},
		{named("b"), "a", []string{"a", "b"}},
		{named("b"), "c", []string{"b", "c"}},
		{named("a-b", "b"), "a/x", []string{"a-b", "a/x", "b"}},
		{named("a/x", "b"), "a-b", []string{"a-b", "a/x", "b"}},
		{named("a", "b", "c"), "b", []string{"a", "b", "c"}},
		{named("a/x"), "a/x-", []string{"a/x", "a/x-"}},
		{numbered(api.MaxFiles, ""), "f100", nil},
	} {
		before := slices.Clone(x.files)
		after, e := Put(x.files, api.File{Path: x.path, Data: "new"})
		if e != api.OK || Check(after) != api.OK || !equal(x.files, before) {
			t.Error(x.path, e)
		}
		if data, _ := Find(after, x.path); data != "new" {
			t.Error(x.path, data)
		}
		for i, path := range x.want {
			if len(after) != len(x.want) || after[i].Path != path || path != x.path && after[i].Data != "data of "+path {
				t.Error(x.path, after)
			}
		}
	}
	full, e := Put(numbered(api.MaxFiles-1, ""), api.File{Path: "a"})
	if e != api.OK || len(full) != api.MaxFiles {
		t.Error(e, len(full))
	}
	if after, e := Put(nil, api.File{Path: "a", Data: strings.Repeat("x", api.MaxData)}); e != api.OK || len(after) != 1 {
		t.Error(e)
	}
}

// P3.2: the first error of putting a file.
func TestPutErrors(t *testing.T) {
	large := strings.Repeat("x", api.MaxData+1)
	for i, x := range []struct {
		files api.Tree
		file  api.File
		e     api.Errno
	}{
		{named("b", "a"), api.File{Path: "A", Data: large}, api.ErrArg},
		{nil, api.File{Path: "A", Data: large}, api.ErrName},
		{nil, api.File{}, api.ErrName},
		{nil, api.File{Path: longPath(api.MaxPath + 1)}, api.ErrName},
		{named("a"), api.File{Path: "a/b", Data: large}, api.ErrTooLarge},
		{named("a"), api.File{Path: "a/b"}, api.ErrTwice},
		{named("a", "a-b", "b"), api.File{Path: "a/b/c"}, api.ErrTwice},
		{named("a/b"), api.File{Path: "a"}, api.ErrTwice},
		{named("a-b", "a/b/c"), api.File{Path: "a/b"}, api.ErrTwice},
		{numbered(api.MaxFiles, ""), api.File{Path: "f100/a"}, api.ErrTwice},
		{numbered(api.MaxFiles, ""), api.File{Path: "a"}, api.ErrTooLarge},
	} {
		if after, e := Put(x.files, x.file); e != x.e || after != nil {
			t.Error(i, e, len(after))
		}
	}
	for i, files := range noTrees() {
		if after, e := Put(files, api.File{Path: "z"}); e != api.ErrArg || after != nil {
			t.Error(i, e)
		}
	}
}

// P3.2: a file is left out, and no other one.
func TestDrop(t *testing.T) {
	files := named("a-b", "a/x", "b")
	for i, f := range files {
		after, e := Drop(files, f.Path)
		if want := slices.Delete(slices.Clone(files), i, i+1); e != api.OK || !equal(after, want) {
			t.Error(f.Path, e, after)
		}
	}
	if !equal(files, named("a-b", "a/x", "b")) {
		t.Error("argument changed")
	}
	if after, e := Drop(named("a"), "a"); e != api.OK || len(after) != 0 {
		t.Error(e, after)
	}
	for _, path := range []string{"", "a", "a/", "x", "a/x/", "A", "c"} {
		if after, e := Drop(files, path); e != api.ErrNotFound || after != nil {
			t.Error(path, e, after)
		}
	}
	if _, e := Drop(nil, ""); e != api.ErrNotFound {
		t.Error(e)
	}
	for i, files := range noTrees() {
		if after, e := Drop(files, files[0].Path); e != api.ErrArg || after != nil {
			t.Error(i, e)
		}
		if after, e := Drop(files, "nowhere"); e != api.ErrArg || after != nil {
			t.Error(i, e)
		}
	}
}

// P3.2: the files of a directory, with the rests of their paths.
func TestUnder(t *testing.T) {
	files := named("a-b/x", "a.b", "a/b/c", "a/b/d", "a/b-", "a/c", "aa/x", "b")
	slices.SortFunc(files, func(f, g api.File) int { return strings.Compare(f.Path, g.Path) })
	for _, x := range []struct {
		dir  string
		want []string
	}{
		{"a", []string{"b-", "b/c", "b/d", "c"}},
		{"a/b", []string{"c", "d"}},
		{"a-b", []string{"x"}},
		{"aa", []string{"x"}},
		{"b", nil}, {"a/b/c", nil}, {"c", nil}, {"a/", nil}, {"/", nil}, {"A", nil}, {"a/b/", nil}, {"a/c/d", nil},
	} {
		under := Under(files, x.dir)
		if len(under) != len(x.want) || Check(under) != api.OK {
			t.Error(x.dir, under)
			continue
		}
		for i, f := range under {
			if f.Path != x.want[i] || f.Data != "data of "+x.dir+"/"+f.Path {
				t.Error(x.dir, f)
			}
		}
	}
	if !equal(Under(files, ""), files) || len(Under(nil, "")) != 0 || len(Under(nil, "a")) != 0 || len(Under(api.Tree{}, "a")) != 0 {
		t.Error("whole tree")
	}
	for i, files := range append(noTrees(), named("a/b", "a/a"), named("a/b", "B")) {
		if len(Under(files, "a")) != 0 || len(Under(files, "")) != 0 {
			t.Error(i)
		}
	}
}

// P3.2: a directory is put in front of all paths.
func TestMount(t *testing.T) {
	files := named("a-b", "a/x", "b")
	mounted, e := Mount(files, "d/e")
	want := api.Tree{{Path: "d/e/a-b", Data: "data of a-b"}, {Path: "d/e/a/x", Data: "data of a/x"}, {Path: "d/e/b", Data: "data of b"}}
	if e != api.OK || !equal(mounted, want) || !equal(files, named("a-b", "a/x", "b")) {
		t.Error(e, mounted)
	}
	if mounted, e := Mount(nil, "d"); e != api.OK || len(mounted) != 0 {
		t.Error(e, mounted)
	}
	if mounted, e := Mount(numbered(api.MaxFiles, "x"), "d"); e != api.OK || len(mounted) != api.MaxFiles {
		t.Error(e)
	}
	// just as long, and as deep, as a path may be
	half := longPath(api.MaxPath/2 - 1)
	if mounted, e := Mount(named(half), half+"x"); e != api.OK || len(mounted[0].Path) != api.MaxPath {
		t.Error(e)
	}
	if mounted, e := Mount(named("1/2/3/4"), "5/6/7/8"); e != api.OK || len(mounted) != 1 {
		t.Error(e)
	}
}

// P3.2: the first error of mounting.
func TestMountErrors(t *testing.T) {
	half := longPath(api.MaxPath / 2)
	for i, x := range []struct {
		files api.Tree
		dir   string
		e     api.Errno
	}{
		{nil, "", api.ErrName},
		{nil, "A", api.ErrName},
		{named("a"), "", api.ErrName},
		{named("a"), "d/", api.ErrName},
		{named("a"), "..", api.ErrName},
		{named("a"), longPath(api.MaxPath), api.ErrName},
		{named("a", half), half, api.ErrName},
		{named("1/2/3/4", "5"), "5/6/7/8/9", api.ErrName},
		{named("b", "a"), "", api.ErrArg},
	} {
		if mounted, e := Mount(x.files, x.dir); e != x.e || mounted != nil {
			t.Error(i, e)
		}
	}
	for i, files := range noTrees() {
		if mounted, e := Mount(files, "d"); e != api.ErrArg || mounted != nil {
			t.Error(i, e)
		}
	}
}

// Results share no memory with arguments.
func TestFreshTrees(t *testing.T) {
	files := named("a", "b/x", "c")
	put, _ := Put(files, api.File{Path: "a", Data: "new"})
	dropped, _ := Drop(files, "c")
	mounted, _ := Mount(files, "d")
	replaced, _ := Replace(files, api.Line{Path: "a"}, "new")
	for _, result := range []api.Tree{put, dropped, mounted, replaced, Under(files, ""), Under(files, "b")} {
		for i := range result {
			result[i] = api.File{}
		}
		_ = append(result, api.File{Path: "z"}, api.File{Path: "z"})
	}
	if !equal(files, named("a", "b/x", "c")) {
		t.Error(files)
	}
}
