package tree

import (
	"strconv"
	"strings"
	"testing"

	"licit/api"
)

// longPath returns a path of as many bytes, in as few name parts as possible.
func longPath(size int) string {
	var parts []string
	for size > api.MaxName {
		parts = append(parts, strings.Repeat("p", api.MaxName))
		size -= api.MaxName + 1
	}
	return strings.Join(append(parts, strings.Repeat("p", size)), "/")
}

// P3.1: what is a path, up to its bounds.
func TestPaths(t *testing.T) {
	for _, path := range []string{
		"a", "z", "0", "9", "_", "a.b", "a-b", "a_b", "a..", "a-", "_.-", "x-1", "a/b.src",
		"1/2/3/4/5/6/7/8",
		strings.Repeat("n", api.MaxName),
		"a/" + strings.Repeat("n", api.MaxName) + "/b",
		longPath(api.MaxPath),
	} {
		if e := Path(path); e != api.OK {
			t.Error(path, e)
		}
	}
}

// P3.1: what is not a path.
func TestNoPaths(t *testing.T) {
	for _, path := range []string{
		"", "/", "//", "/a", "a/", "a//b", ".", "..", "a/..", ".a", "-a", "a/.b", "a/-b",
		"A", "aB", "a b", "a\n", "a\x00", "a\\b", "a:b", "a@b", "a+b", "`", "{", "a,", "ä", "\xff",
		"1/2/3/4/5/6/7/8/9",
		strings.Repeat("d/", api.MaxDepth-1) + "d",
		strings.Repeat("n", api.MaxName+1),
		"a/" + strings.Repeat("n", api.MaxName+1),
		longPath(api.MaxPath + 1),
		strings.Repeat("/", 1<<20),
		strings.Repeat("a", 1<<20),
	} {
		if e := Path(path); e != api.ErrName {
			t.Error(path[:min(len(path), 50)], e)
		}
	}
}

// P3.1: of all bytes just the given ones stand in a name part, and of these two not in front.
func TestBytesOfParts(t *testing.T) {
	const inner = "abcdefghijklmnopqrstuvwxyz0123456789._-"
	for c := range 256 {
		s := string([]byte{byte(c)})
		in := strings.Contains(inner, s)
		for _, x := range []struct {
			path string
			is   bool
		}{{s, in && s != "." && s != "-"}, {"a" + s, in}, {"a/b" + s, in}, {"a/" + s, in && s != "." && s != "-"}} {
			if (Path(x.path) == api.OK) != x.is {
				t.Error(strconv.Quote(x.path), Path(x.path))
			}
		}
	}
}

// numbered returns a tree of n files with some data.
func numbered(n int, data string) api.Tree {
	var t api.Tree
	for i := range n {
		t = append(t, api.File{Path: "f" + strconv.Itoa(100+i), Data: data})
	}
	return t
}

// named returns the files with some paths, whose data are the paths.
func named(paths ...string) api.Tree {
	var t api.Tree
	for _, path := range paths {
		t = append(t, api.File{Path: path, Data: "data of " + path})
	}
	return t
}

// P3.1: what is a tree, up to its bounds.
func TestTrees(t *testing.T) {
	for i, files := range []api.Tree{
		nil,
		{},
		named("a"),
		named("a-b", "a/x", "b"),
		named("a", "a-b", "a.b", "a0", "aa/a"),
		named("a/b/c", "a/b/d", "a/c"),
		named(longPath(api.MaxPath)),
		numbered(api.MaxFiles, ""),
		{{Path: "a", Data: strings.Repeat("\x00", api.MaxData)}},
	} {
		if e := Check(files); e != api.OK {
			t.Error(i, e)
		}
	}
}

// P3.1: the first error of what is not a tree.
func TestNoTrees(t *testing.T) {
	large := strings.Repeat("x", api.MaxData+1)
	for i, x := range []struct {
		files api.Tree
		e     api.Errno
	}{
		{numbered(api.MaxFiles+1, ""), api.ErrTooLarge},
		{make(api.Tree, api.MaxFiles+1), api.ErrTooLarge},
		{named(""), api.ErrName},
		{named("a", "B"), api.ErrName},
		{named("a", "a"), api.ErrOrder},
		{named("b", "a"), api.ErrOrder},
		{named("a/x", "a-b"), api.ErrOrder},
		{named("a/b", "a"), api.ErrOrder},
		{named("a", "a/b"), api.ErrTwice},
		{named("a", "a-b", "a.b", "a/b"), api.ErrTwice},
		{named("a/b", "a/b-", "a/b/c/d"), api.ErrTwice},
		{api.Tree{{Path: "a", Data: large}}, api.ErrTooLarge},
		// one file has several errors
		{api.Tree{{Path: "", Data: large}}, api.ErrName},
		{api.Tree{{Path: "b"}, {Path: "a", Data: large}}, api.ErrTooLarge},
		{named("a", "b", "a/b"), api.ErrOrder},
		// the first file with an error decides
		{append(named("b", "a"), api.File{Path: "A"}), api.ErrOrder},
		{append(named("a", "a/b"), api.File{Path: "b", Data: large}), api.ErrTwice},
		{api.Tree{{Path: "a", Data: large}, {Path: "A"}}, api.ErrTooLarge},
		{append(named("a", "a/b"), named("a")...), api.ErrTwice},
	} {
		if e := Check(x.files); e != x.e {
			t.Error(i, e, x.e)
		}
	}
}
