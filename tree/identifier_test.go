package tree

import (
	"slices"
	"strconv"
	"strings"
	"testing"

	"licit/api"
	"licit/digest"
)

// bytesOf writes a list of texts as layer 2 says, by itself.
func bytesOf(l ...string) string {
	all := strconv.Itoa(len(l)) + ";"
	for _, s := range l {
		all += strconv.Itoa(len(s)) + ":" + s + ","
	}
	return all
}

// P3.3: identifiers as the definition says, written out.
func TestIdentifiers(t *testing.T) {
	file := func(path string) string { return digest.Sum("f" + "data of " + path) }
	dir := func(l ...string) string { return digest.Sum("d" + bytesOf(l...)) }
	full := make([]string, 0, 2*api.MaxFiles)
	for _, f := range numbered(api.MaxFiles, "x\n") {
		full = append(full, f.Path, digest.Sum("fx\n"))
	}
	for i, x := range []struct {
		files api.Tree
		want  string
	}{
		{nil, digest.Sum("d0;")},
		{api.Tree{}, digest.Sum("d0;")},
		{named("a"), dir("a", file("a"))},
		{api.Tree{{Path: "a"}}, dir("a", digest.Sum("f"))},
		// the name part a comes before a-b and a.b, though the paths below it come behind them
		{named("a-b", "a.b", "a/x", "b"), dir("a", dir("x", file("a/x")), "a-b", file("a-b"), "a.b", file("a.b"), "b", file("b"))},
		{named("a-b/x", "a/b-/y", "a/b/y", "a0"), dir(
			"a", dir("b", dir("y", file("a/b/y")), "b-", dir("y", file("a/b-/y"))),
			"a-b", dir("x", file("a-b/x")), "a0", file("a0"))},
		{named("1/2/3/4/5/6/7/8"), dir("1", dir("2", dir("3", dir("4", dir("5", dir("6", dir("7", dir("8", file("1/2/3/4/5/6/7/8")))))))))},
		{numbered(api.MaxFiles, "x\n"), dir(full...)},
	} {
		if id, e := ID(x.files); e != api.OK || id != x.want {
			t.Error(i, e)
		}
	}
	large := strings.Repeat("\xff", api.MaxData)
	if id, e := ID(api.Tree{{Path: "a", Data: large}}); e != api.OK || id != dir("a", digest.Sum("f"+large)) {
		t.Error(e)
	}
	for i, files := range noTrees() {
		if id, e := ID(files); e != api.ErrArg || id != "" {
			t.Error(i, e)
		}
	}
}

// P3.6: trees have one identifier only if they have the same files.
func TestDifferentIdentifiers(t *testing.T) {
	seen := map[string]int{}
	trees := []api.Tree{
		nil, {{Path: "a"}}, {{Path: "b"}}, {{Path: "a", Data: "b"}}, {{Path: "a/b"}}, {{Path: "a/b/c"}}, {{Path: "b/a"}},
		{{Path: "a"}, {Path: "b"}}, {{Path: "a"}, {Path: "b", Data: "x"}}, {{Path: "a", Data: "x"}, {Path: "b"}},
		{{Path: "a/a"}, {Path: "a/b"}}, {{Path: "a/a"}, {Path: "b/a"}}, {{Path: "a-b"}, {Path: "a/b"}},
		// data that look like those of other identifiers
		{{Path: "a", Data: "d0;"}}, {{Path: "a", Data: "f"}}, {{Path: "a", Data: bytesOf("b", digest.Sum("f"))}},
	}
	for i, files := range trees {
		id, e := ID(files)
		if j, twice := seen[id]; e != api.OK || twice {
			t.Error(i, j, e)
		}
		if again, _ := ID(slices.Clone(files)); again != id || len(id) != api.DigestSize {
			t.Error(i)
		}
		seen[id] = i
	}
}

// P3.5: the changes in the order of the paths, with the identifiers of files.
func TestChanges(t *testing.T) {
	id := func(data string) string { return digest.Sum("f" + data) }
	a := api.Tree{{Path: "a-b", Data: "1"}, {Path: "a/x", Data: "2"}, {Path: "b", Data: ""}, {Path: "d", Data: "4"}, {Path: "e", Data: ""}}
	b := api.Tree{{Path: "a", Data: "5"}, {Path: "a-b", Data: "6"}, {Path: "c", Data: ""}, {Path: "d", Data: "4"}, {Path: "e", Data: "\n"}}
	for i, x := range []struct {
		a, b api.Tree
		want []api.Change
	}{
		{nil, nil, nil},
		{a, a, nil},
		{a, b, []api.Change{
			{Path: "a", Kind: api.Added, New: id("5")},
			{Path: "a-b", Kind: api.Changed, Old: id("1"), New: id("6")},
			{Path: "a/x", Kind: api.Removed, Old: id("2")},
			{Path: "b", Kind: api.Removed, Old: id("")},
			{Path: "c", Kind: api.Added, New: id("")},
			{Path: "e", Kind: api.Changed, Old: id(""), New: id("\n")},
		}},
		{b, a, []api.Change{
			{Path: "a", Kind: api.Removed, Old: id("5")},
			{Path: "a-b", Kind: api.Changed, Old: id("6"), New: id("1")},
			{Path: "a/x", Kind: api.Added, New: id("2")},
			{Path: "b", Kind: api.Added, New: id("")},
			{Path: "c", Kind: api.Removed, Old: id("")},
			{Path: "e", Kind: api.Changed, Old: id("\n"), New: id("")},
		}},
		{nil, a[:1], []api.Change{{Path: "a-b", Kind: api.Added, New: id("1")}}},
		{a[:1], nil, []api.Change{{Path: "a-b", Kind: api.Removed, Old: id("1")}}},
	} {
		changes, e := Differ(x.a, x.b)
		if e != api.OK || !slices.Equal(changes, x.want) {
			t.Error(i, e, changes)
		}
	}
	// no path in common, and as many files as possible
	other, _ := Mount(numbered(api.MaxFiles, ""), "d")
	if changes, e := Differ(numbered(api.MaxFiles, ""), other); e != api.OK || len(changes) != 2*api.MaxFiles {
		t.Error(e, len(changes))
	}
}

// P3.5: both arguments have to be trees.
func TestDifferErrors(t *testing.T) {
	for i, files := range noTrees() {
		for _, pair := range [][2]api.Tree{{files, nil}, {nil, files}, {files, files}} {
			if changes, e := Differ(pair[0], pair[1]); e != api.ErrArg || changes != nil {
				t.Error(i, e)
			}
		}
	}
}
