// Package trace belongs to no layer: it follows builds step by step, for the layers that ask which parts of files come from which others.
package trace

import (
	"slices"
	"strings"

	"licit/api"
	"licit/build"
	"licit/recipe"
	"licit/source"
	"licit/span"
	"licit/tree"
)

// Trace knows a build whose steps can be followed. The zero value is that of a build without files and steps.
type Trace struct {
	built api.Built
	kinds map[string]int // those of the artifacts, by path
	steps []step
}

// step is a step of a build that was done.
type step struct {
	kind      int
	in, using []api.File
	reads     api.Tree // all files that were read, those of in and using among them
	words     []string
	out       string
	recipes   api.Lines
}

// New builds a distribution: the fault of build.Build.
func New(d api.Distribution) (Trace, api.Fault) {
	b, f := build.Build(d)
	if f.Error != api.OK {
		return Trace{}, f
	}
	t := Trace{built: b, kinds: map[string]int{}}
	for _, file := range b.Files {
		t.kinds[file.Path] = api.ArtifactText
	}
	var recipes []api.Span
	for _, p := range d {
		text, _ := tree.Find(p.Tree, p.Recipe)
		recipes = append(recipes, api.Span{Path: p.Name + "/" + p.Recipe, To: lines(text)})
		// all steps of all recipes were done, in order, since there is no fault
		steps, _, _ := recipe.Parse(text)
		for _, s := range steps {
			t.follow(p.Name, s, span.Set(recipes))
		}
	}
	return t, api.Fault{}
}

// follow adds the next step of the build, given its package and the lines of the recipes up to that of the package.
func (t *Trace) follow(name string, s api.Step, recipes api.Lines) {
	done := t.built.Record[len(t.steps)]
	var reads []string
	for _, x := range done.Reads {
		reads = append(reads, x.Path)
	}
	next := step{
		kind:    s.Kind,
		in:      t.files(paths(name, s.In)),
		using:   t.files(paths(name, s.Using)),
		reads:   t.files(slices.Sorted(slices.Values(reads))),
		words:   s.Words,
		out:     done.Wrote.Path,
		recipes: recipes,
	}
	t.kinds[next.out] = t.written(next)
	t.steps = append(t.steps, next)
}

// paths returns what the references of a step that was done denote.
func paths(name string, refs []string) []string {
	var l []string
	for _, ref := range refs {
		path, _ := source.Reference(name, ref)
		l = append(l, path)
	}
	return l
}

// files returns the files of the build with some paths.
func (t *Trace) files(paths []string) []api.File {
	var l []api.File
	for _, path := range paths {
		l = append(l, api.File{Path: path, Data: t.data(path)})
	}
	return l
}

// data returns the data of a file.
func (t *Trace) data(path string) string {
	data, _ := tree.Find(t.built.Files, path)
	return data
}

// written returns the kind of the artifact that a step has written.
func (t *Trace) written(s step) int {
	switch s.kind {
	case api.StepCompile:
		return api.ArtifactObject
	case api.StepArchive:
		return api.ArtifactArchive
	case api.StepShare:
		return api.ArtifactLibrary
	case api.StepLink:
		return api.ArtifactBinary
	case api.StepCopy, api.StepInstall:
		return t.kinds[s.in[0].Path]
	}
	return api.ArtifactText
}

// lines returns the number of lines of a string, whether it is a text or not.
func lines(data string) int { return strings.Count(data, "\n") + 1 }

// Built returns what was built.
func (t *Trace) Built() api.Built {
	b := api.Built{Files: slices.Clone(t.built.Files), Installed: slices.Clone(t.built.Installed)}
	for _, d := range t.built.Record {
		d.Reads = slices.Clone(d.Reads)
		b.Record = append(b.Record, d)
	}
	return b
}

// Kind returns the kind of the artifact at a path, 0 if there is no file.
func (t *Trace) Kind(path string) int { return t.kinds[path] }

// Steps returns the number of steps.
func (t *Trace) Steps() int { return len(t.steps) }

// Out returns the path that a step has written; nothing, if there is no such step.
func (t *Trace) Out(i int) string { return t.step(i).out }

// Writer returns the step that has written a path, and whether there is one.
func (t *Trace) Writer(path string) (int, bool) {
	i := slices.IndexFunc(t.steps, func(s step) bool { return s.out == path })
	return max(i, 0), i >= 0
}

// Recipes returns the lines of the recipes of a step: that of its package, and those of all packages before it; nothing, if there is no such step.
func (t *Trace) Recipes(i int) api.Lines { return slices.Clone(t.step(i).recipes) }

// step returns the step with an index; one that has read and written nothing, if there is no such step.
func (t *Trace) step(i int) step {
	if i < 0 || i >= len(t.steps) {
		return step{}
	}
	return t.steps[i]
}
