// Package sample belongs to no layer: it makes distributions that can be built, and texts of words, for the tests of the layers that look at them.
package sample

import (
	"slices"
	"strconv"
	"strings"

	"licit/api"
	"licit/build"
	"licit/tree"
)

// Maker makes distributions. Intn chooses a number from 0 to n - 1, so that tests can let chance decide.
type Maker struct{ Intn func(n int) int }

// Distribution returns a distribution that can be built, of up to so many packages. Each has one of some plots, and up to so many steps behind it.
func (m Maker) Distribution(packages, steps int) api.Distribution {
	var d api.Distribution
	for i := range packages {
		name := "p" + strconv.Itoa(i)
		if i > 0 && i == packages-1 {
			// the order of packages is not that of their names
			name = "a"
		}
		longer := append(slices.Clone(d), m.begin(name))
		if _, f := build.Build(longer); f.Error != api.OK {
			// there are too many files
			return d
		}
		d = longer
		for n := range 1 + m.Intn(steps) {
			d = m.grow(d, n)
		}
	}
	return d
}

// grow returns a distribution with one more step of the last package, or sometimes with none: there are only so many attempts to find one that can be done.
func (m Maker) grow(d api.Distribution, n int) api.Distribution {
	b, _ := build.Build(d)
	last := d[len(d)-1]
	visible := refs(b, last.Name)
	recipe, _ := tree.Find(last.Tree, last.Recipe)
	for range 4 {
		next := m.step(visible, strconv.Itoa(n))
		if recipe != "" {
			next = recipe + m.pick("\n", "\n\n") + next
		}
		grown := last
		grown.Tree, _ = tree.Put(last.Tree, api.File{Path: last.Recipe, Data: next})
		longer := append(slices.Clone(d[:len(d)-1]), grown)
		if _, f := build.Build(longer); f.Error == api.OK {
			return longer
		}
	}
	return d
}

// refs returns the references of a package to the files that its next step may read: first those that no step has written, then the others, in the order in which they were written.
func refs(b api.Built, name string) []string {
	var l []string
	written := map[string]bool{}
	for _, step := range b.Record {
		written[step.Wrote.Path] = true
	}
	add := func(path string) {
		if own, is := strings.CutPrefix(path, name+"/"); is {
			l = append(l, own)
		} else if slices.Contains(b.Installed, path) {
			l = append(l, "@"+path)
		}
	}
	for _, f := range b.Files {
		if !written[f.Path] {
			add(f.Path)
		}
	}
	for _, step := range b.Record {
		add(step.Wrote.Path)
	}
	return l
}

// Package returns a package with a recipe, and with other files, whose paths and data are given in turn, in any order.
func Package(name, recipe string, parts ...string) api.Package {
	p := api.Package{Name: name, Version: "1", Recipe: "recipe", Tree: api.Tree{{Path: "recipe", Data: recipe}}}
	for i := 0; i+1 < len(parts); i += 2 {
		p.Tree, _ = tree.Put(p.Tree, api.File{Path: parts[i], Data: parts[i+1]})
	}
	return p
}

// pick returns one of some strings.
func (m Maker) pick(l ...string) string { return l[m.Intn(len(l))] }

// ref returns a reference, mostly to a file whose name has an ending.
func (m Maker) ref(visible []string, ending string) string {
	var l []string
	for _, ref := range visible {
		if strings.HasSuffix(ref, ending) {
			l = append(l, ref)
		}
	}
	if len(l) == 0 || m.Intn(12) == 0 {
		l = visible
	}
	// what was written last stands at the end, and is often taken, so that steps depend on each other
	if m.Intn(2) == 0 {
		l = l[len(l)*2/3:]
	}
	return m.pick(l...)
}

// several returns up to n references to different files, and at least one.
func (m Maker) several(visible []string, ending string, n int) string {
	var l []string
	for range 1 + m.Intn(n) {
		if ref := m.ref(visible, ending); !slices.Contains(l, ref) {
			l = append(l, ref)
		}
	}
	return strings.Join(l, " ")
}

// step returns a step that reads some of the visible files; n makes what it writes different.
func (m Maker) step(visible []string, n string) string {
	one := func(ending string) string { return m.ref(visible, ending) }
	switch m.Intn(18) {
	case 0, 1, 2:
		return "compile " + one(".src") + " to " + n + ".o" + m.pick("", "", " with big", " with big odd")
	case 3:
		return "archive " + m.several(visible, ".o", 3) + " to " + n + ".a"
	case 4, 5:
		return "share " + m.pick("g.o", m.several(visible, ".o", 3)) + " to " + n + ".so"
	case 6:
		return "link main main.o f.o g.o to " + n + ".bin"
	case 7:
		return "link main main.o f.o using " + m.several(visible, ".so", 2) + " to " + n + ".bin"
	case 8, 9:
		return "link main main.o using " + m.several(visible, ".a", 2) + m.pick("", " "+one(".so")) + " to " + n + ".bin"
	case 10:
		return "link main " + m.several(visible, ".o", 4) + m.pick("", " using "+one(".a")) + " to " + n + ".bin"
	case 11, 12:
		return "run " + one(".bin") + m.pick("", " using "+m.several(visible, ".so", 2)) + " on " + one("") + " to " + n + m.pick(".src", ".o", ".txt")
	case 13:
		return "patch " + m.pick("h.src", one(".src")) + " with " + one(".diff") + " to " + n + ".src"
	case 14:
		ref := one("")
		return "copy " + ref + " to " + n + ending(ref)
	}
	ref := one(m.pick("", ".bin", ".so", ".a", ".o"))
	return "install " + ref + " as " + m.pick("", "out/") + n + ending(ref)
}

// ending returns the ending of a reference, with its point.
func ending(ref string) string {
	if at := strings.LastIndex(ref, "."); at > strings.LastIndex(ref, "/") {
		return ref[at:]
	}
	return ""
}
