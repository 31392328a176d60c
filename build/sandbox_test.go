package build

import (
	"slices"
	"testing"

	"licit/api"
)

// sandbox returns a new one.
func sandbox(t *testing.T, d api.Distribution) *Sandbox {
	t.Helper()
	s, e := New(d)
	if e != api.OK {
		t.Fatal(e)
	}
	return s
}

// next does a step that can be done.
func next(t *testing.T, s *Sandbox) {
	t.Helper()
	if did, f := s.Next(); !did || f != (api.Fault{}) {
		t.Fatal(did, f)
	}
}

// rest does all steps that are left, and returns the fault at the end.
func rest(s *Sandbox) api.Fault {
	for {
		if did, f := s.Next(); !did {
			return f
		}
	}
}

// two is a distribution of packages with steps and without them.
func two() api.Distribution {
	return api.Distribution{
		pack("none", "", "f", "0"),
		pack("lib", "copy f to g\n\ninstall g as h\ncopy h to i", "f", "1"),
		pack("empty", "\n\n"),
		pack("app", "copy @lib/h to f", "z", "2"),
		pack("end", "\n", "f", "3"),
	}
}

// P15.2: what is visible, and what was built, in front of each step and behind the last one.
func TestStates(t *testing.T) {
	s := sandbox(t, two())
	all := []string{"app/recipe", "app/z", "empty/recipe", "end/f", "end/recipe", "lib/f", "lib/recipe", "none/f", "none/recipe"}
	for i, x := range []struct{ visible, added, installed []string }{
		{[]string{"lib/f", "lib/recipe"}, nil, nil},
		{[]string{"lib/f", "lib/g", "lib/recipe"}, []string{"lib/g"}, nil},
		{[]string{"lib/f", "lib/g", "lib/h", "lib/recipe"}, []string{"lib/g", "lib/h"}, []string{"lib/h"}},
		{[]string{"app/recipe", "app/z", "lib/h"}, []string{"lib/g", "lib/h", "lib/i"}, []string{"lib/h"}},
		{nil, []string{"app/f", "lib/g", "lib/h", "lib/i"}, []string{"lib/h"}},
	} {
		if i > 0 {
			next(t, s)
		}
		if l := pathsOf(s.Visible()); !slices.Equal(l, x.visible) {
			t.Error(i, l)
		}
		b := s.Result()
		if l := pathsOf(b.Files); !slices.Equal(l, slices.Sorted(slices.Values(append(x.added, all...)))) || !slices.Equal(b.Installed, x.installed) || len(b.Record) != i {
			t.Error(i, l, b.Installed, b.Record)
		}
	}
	want := built(t, two())
	for range 3 {
		if did, f := s.Next(); did || f != (api.Fault{}) || !sameBuilt(s.Result(), want) || s.Visible() != nil {
			t.Error(did, f)
		}
	}
}

// P15.2: the data of what is visible.
func TestVisibleData(t *testing.T) {
	s := sandbox(t, api.Distribution{pack("lib", "install f as h\n", "f", "1"), pack("app", "copy @lib/h to f", "z", "2")})
	next(t, s)
	if v := s.Visible(); !slices.Equal(v, api.Tree{{Path: "app/recipe", Data: "copy @lib/h to f"}, {Path: "app/z", Data: "2"}, {Path: "lib/h", Data: "1"}}) {
		t.Error(v)
	}
}

// P15.2: a sandbox without packages, and one without steps.
func TestNoSteps(t *testing.T) {
	for i, d := range []api.Distribution{nil, {pack("a", "", "x", "1"), pack("b", "\n")}} {
		s := sandbox(t, d)
		for range 2 {
			if did, f := s.Next(); did || f != (api.Fault{}) || s.Visible() != nil {
				t.Error(i, did, f)
			}
		}
		if b := s.Result(); b.Record != nil || len(b.Files) != 3*i {
			t.Error(i, b)
		}
	}
}

// P15.2: a fault of a step stays, and changes nothing that was built. Ahead of it, what the step may read is visible; behind it, nothing is.
func TestFaultOfStep(t *testing.T) {
	s := sandbox(t, one("copy recipe to x\ncompile src to o\ncopy recipe to y", "src", "\n\nmake"))
	next(t, s)
	before, ahead := s.Result(), s.Clone()
	want := api.Fault{Error: api.ErrSyntax, Step: 1, At: api.Line{Path: "app/src", N: 2}}
	for range 3 {
		if did, f := s.Next(); did || f != want {
			t.Error(did, f)
		}
		if !sameBuilt(s.Result(), before) || s.Visible() != nil {
			t.Error(s.Result(), s.Visible())
		}
	}
	if c := s.Clone(); !sameBuilt(c.Result(), before) || c.Visible() != nil || rest(c) != want {
		t.Error(c.Result(), c.Visible())
	}
	if l := pathsOf(ahead.Visible()); !slices.Equal(l, []string{"app/recipe", "app/src", "app/x"}) {
		t.Error(l)
	}
	if f := rest(ahead); f != want || ahead.Visible() != nil {
		t.Error(f, ahead.Visible())
	}
}

// P15.2: nothing is visible behind a fault of any kind of step, whatever is in front of it and would come behind it.
func TestNothingVisibleBehindFaults(t *testing.T) {
	for _, step := range []string{
		"copy a/b/c/d/e/f/g/h to x", "copy f to f", "copy f to f/x", "copy none to x", "install none as x", "compile none to x",
		"compile f to x", "compile f to x with big", "archive f to x", "share f to x", "link main f to x", "run f on f to x", "patch f with f to x",
	} {
		for i, x := range []struct {
			d             api.Distribution
			before, ahead int // the steps that can be done, and the files that the one with the fault may read
		}{
			{one(step, "f", "x"), 0, 2},
			{one("\ncopy f to g\n"+step+"\ninstall f as y\ncopy f to z", "f", "x"), 1, 3},
			{append(one("install f as g\n"+step, "f", "x"), pack("end", "copy f to g", "f", "1")), 1, 3},
			{append(one(step, "f", "x"), pack("end", "make")), 0, 2},
			{api.Distribution{pack("lib", "install f as y\ncopy y to z", "f", "1"), pack("none", ""), pack("app", step, "f", "x")}, 2, 3},
		} {
			s := sandbox(t, x.d)
			for range x.before {
				next(t, s)
			}
			if len(s.Visible()) != x.ahead {
				t.Error(step, i, s.Visible())
			}
			for range 2 {
				if did, f := s.Next(); did || f.Error == api.OK || s.Visible() != nil || s.Clone().Visible() != nil {
					t.Error(step, i, f, s.Visible())
				}
			}
		}
	}
}

// P15.2: a fault of a recipe stays, and nothing is visible ahead of its first step, also if some of its lines are steps.
func TestFaultOfRecipe(t *testing.T) {
	for _, recipe := range []string{"make", "copy recipe to x\nmake", "\n\n\nmake\ncopy recipe to x"} {
		s := sandbox(t, api.Distribution{pack("lib", "install recipe as x"), pack("empty", ""), pack("app", recipe), pack("end", "copy recipe to x")})
		if len(s.Visible()) != 1 {
			t.Error(s.Visible())
		}
		next(t, s)
		before := s.Result()
		for range 3 {
			if s.Visible() != nil || !sameBuilt(s.Result(), before) {
				t.Error(s.Visible())
			}
			did, f := s.Next()
			if did || f.Error != api.ErrSyntax || f.Package != 2 || f.At != (api.Line{N: -1}) {
				t.Error(did, f)
			}
		}
	}
	s := sandbox(t, one("make"))
	if s.Visible() != nil {
		t.Error(s.Visible())
	}
	if did, f := s.Next(); did || f != fault(api.ErrSyntax, 0) {
		t.Error(did, f)
	}
}

// P15.2: a clone at each state goes on beside its sandbox.
func TestClones(t *testing.T) {
	want := built(t, two())
	for n := range 5 {
		s := sandbox(t, two())
		for range n {
			next(t, s)
		}
		before, visible := s.Result(), s.Visible()
		c := s.Clone()
		if !sameBuilt(c.Result(), before) || !slices.Equal(c.Visible(), visible) {
			t.Error(n, c.Result())
		}
		if f := rest(c); f != (api.Fault{}) || !sameBuilt(c.Result(), want) {
			t.Error(n, f)
		}
		if !sameBuilt(s.Result(), before) || !slices.Equal(s.Visible(), visible) {
			t.Error(n, s.Result())
		}
		// the other way round, and two clones that do steps by turns
		a, b := s.Clone(), s.Clone()
		for {
			did, _ := a.Next()
			b.Next()
			if !did {
				break
			}
		}
		if !sameBuilt(a.Result(), want) || !sameBuilt(b.Result(), want) || !sameBuilt(s.Result(), before) {
			t.Error(n)
		}
		if f := rest(s); f != (api.Fault{}) || !sameBuilt(s.Result(), want) {
			t.Error(n, f)
		}
	}
}

// copyOf returns a distribution that shares no memory with another one.
func copyOf(d api.Distribution) api.Distribution {
	c := slices.Clone(d)
	for i := range c {
		c[i].Tree = slices.Clone(c[i].Tree)
	}
	return c
}

// P15.2, P15.3: arguments are neither changed nor kept, and results are new.
func TestNewMemory(t *testing.T) {
	d := two()
	given := copyOf(d)
	want := built(t, d)
	s := sandbox(t, d)
	for i := range d {
		if d[i].Name != given[i].Name || !slices.Equal(d[i].Tree, given[i].Tree) {
			t.Error(d[i])
		}
		clear(d[i].Tree)
		d[i] = api.Package{}
	}
	for {
		b, v := s.Result(), s.Visible()
		c := s.Clone().Result()
		clear(b.Files)
		clear(b.Installed)
		for _, x := range b.Record {
			clear(x.Reads)
		}
		clear(b.Record)
		clear(v)
		if !sameBuilt(c, s.Result()) {
			t.Error(c)
		}
		if did, f := s.Next(); !did {
			if f != (api.Fault{}) {
				t.Error(f)
			}
			break
		}
	}
	if b := s.Result(); !sameBuilt(b, want) {
		t.Error(b)
	}
}
