package rebuild

import (
	"fmt"
	"slices"
	"strings"
	"testing"

	"licit/api"
	"licit/sample"
	"licit/tree"
)

// pack returns a package with the lines of a recipe, and paths and data of other files in turn.
func pack(name string, recipe []string, parts ...string) api.Package {
	return sample.Package(name, lines(recipe...), parts...)
}

// lines joins lines.
func lines(l ...string) string { return strings.Join(l, "\n") }

// edit returns an edit.
func edit(path string, n int, text string) api.Edit {
	return api.Edit{At: api.Line{Path: path, N: n}, Text: text}
}

// data returns the data of a file of a distribution.
func data(t *testing.T, d api.Distribution, path string) string {
	t.Helper()
	for _, p := range d {
		if own, inside := strings.CutPrefix(path, p.Name+"/"); inside {
			text, found := tree.Find(p.Tree, own)
			if !found {
				t.Error(path)
			}
			return text
		}
	}
	t.Error(path)
	return ""
}

// equal compares distributions; empty and nil lists are the same.
func equal(a, b api.Distribution) bool { return fmt.Sprintf("%q", a) == fmt.Sprintf("%q", b) }

// edited returns the distribution with edits that have no fault.
func edited(t *testing.T, d api.Distribution, l ...api.Edit) api.Distribution {
	t.Helper()
	x, e := Edit(d, l)
	if e != api.OK {
		t.Fatal(l, e)
	}
	return x
}

// expectTry compares a trial.
func expectTry(t *testing.T, d api.Distribution, output string, built, same bool, l ...api.Edit) {
	t.Helper()
	x, e := Try(d, l, output)
	if e != api.OK || x != (api.Trial{Built: built, Same: same}) {
		t.Errorf("%s %v: %v %d", output, l, x, e)
	}
}

// expectBlame compares the indices of the edits that are left.
func expectBlame(t *testing.T, d api.Distribution, output string, l []api.Edit, want ...int) {
	t.Helper()
	left, e := Blame(d, l, output)
	if e != api.OK || !slices.Equal(left, want) {
		t.Errorf("%s %v: %v %d", output, l, left, e)
	}
}
