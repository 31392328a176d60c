package build

import (
	"maps"
	"slices"
	"strings"

	"licit/api"
	"licit/digest"
	"licit/recipe"
	"licit/source"
	"licit/tree"
)

// task is what a sandbox has to do: a step of a package, or to return the fault of a recipe, behind which nothing is done.
type task struct {
	place int
	name  string // of the package
	step  api.Step
	fault api.Fault
}

// Sandbox builds a distribution step by step.
type Sandbox struct {
	files     map[string]string // their data
	installed map[string]bool
	tasks     []task // what is left to be done: nothing behind a fault
	record    api.Record
	fault     api.Fault // of the first task that had one
}

// New returns a sandbox in which nothing was done: the error of Check.
func New(d api.Distribution) (*Sandbox, api.Errno) {
	if e := Check(d); e != api.OK {
		return nil, e
	}
	s := &Sandbox{files: map[string]string{}, installed: map[string]bool{}}
	for _, p := range d {
		for _, f := range p.Tree {
			s.files[p.Name+"/"+f.Path] = f.Data
		}
	}
	for i, p := range d {
		s.tasks = append(s.tasks, plan(i, p)...)
	}
	return s, api.OK
}

// plan returns what there is to do for a package. Its recipe can be read in front of all steps, since none of them changes it.
func plan(place int, p api.Package) []task {
	text, _ := tree.Find(p.Tree, p.Recipe)
	steps, n, e := recipe.Parse(text)
	if e != api.OK {
		return []task{{fault: faultAt(e, place, n)}}
	}
	var tasks []task
	for _, s := range steps {
		tasks = append(tasks, task{place: place, name: p.Name, step: s})
	}
	return tasks
}

// Next does the next step; false if there is none, or with a fault, which all further calls return, too: that of the recipe or the step.
func (s *Sandbox) Next() (did bool, fault api.Fault) {
	if len(s.tasks) == 0 {
		return false, s.fault
	}
	defer func() { s.keep(fault) }()
	t := s.tasks[0]
	if t.fault.Error != api.OK {
		return false, t.fault
	}
	j := &job{kind: t.step.Kind, words: t.step.Words, at: api.Line{N: -1}}
	e := s.prepare(t, j)
	if e == api.OK {
		e = j.do()
	}
	if e != api.OK {
		return false, api.Fault{Error: e, Package: t.place, Step: t.step.Line, At: j.at}
	}
	s.finish(t, j)
	return true, api.Fault{}
}

// keep keeps the fault of a task, if it has one: then there is no next step any more, for none of the functions.
func (s *Sandbox) keep(fault api.Fault) {
	if fault.Error != api.OK {
		s.fault, s.tasks = fault, nil
	}
}

// prepare gives a job the paths and the files of a task: ErrName, if a reference denotes no path; ErrTwice or ErrTooLarge, if there is no room for what is written; ErrNotFound, if the task may not read one of its files.
func (s *Sandbox) prepare(t task, j *job) api.Errno {
	in, e := paths(t.name, t.step.In)
	if e != api.OK {
		return e
	}
	using, e := paths(t.name, t.step.Using)
	if e != api.OK {
		return e
	}
	if j.out, e = source.Reference(t.name, t.step.Out); e != api.OK {
		return e
	}
	if e := s.room(j.out); e != api.OK {
		return e
	}
	j.visible = s.visible(t)
	if j.in, e = find(j.visible, in); e != api.OK {
		return e
	}
	j.using, e = find(j.visible, using)
	return e
}

// paths returns the paths that references denote in a package: ErrName, if one of them denotes none.
func paths(name string, refs []string) ([]string, api.Errno) {
	var l []string
	for _, ref := range refs {
		p, e := source.Reference(name, ref)
		if e != api.OK {
			return nil, e
		}
		l = append(l, p)
	}
	return l, api.OK
}

// find returns the files of a tree with some paths: ErrNotFound, if there is no such file.
func find(t api.Tree, paths []string) ([]api.File, api.Errno) {
	var l []api.File
	for _, p := range paths {
		data, found := tree.Find(t, p)
		if !found {
			return nil, api.ErrNotFound
		}
		l = append(l, api.File{Path: p, Data: data})
	}
	return l, api.OK
}

// room checks whether there is room for a new file: ErrTwice, if it exists, is below another one or the other way round; ErrTooLarge, if there are too many files.
func (s *Sandbox) room(path string) api.Errno {
	for p := range s.files {
		if p == path || strings.HasPrefix(p, path+"/") || strings.HasPrefix(path, p+"/") {
			return api.ErrTwice
		}
	}
	if len(s.files) >= api.MaxFiles {
		return api.ErrTooLarge
	}
	return api.OK
}

// finish writes what a job has made, and records what it has read.
func (s *Sandbox) finish(t task, j *job) {
	done := api.Done{Package: t.place, Line: t.step.Line, Kind: j.kind}
	seen := map[string]bool{}
	for _, p := range j.reads() {
		if !seen[p] {
			seen[p] = true
			done.Reads = append(done.Reads, s.touch(p))
		}
	}
	s.files[j.out] = j.data
	done.Wrote = s.touch(j.out)
	if j.kind == api.StepInstall {
		s.installed[j.out] = true
	}
	s.record = append(s.record, done)
	s.tasks = s.tasks[1:]
}

// touch returns a file that was read or written.
func (s *Sandbox) touch(path string) api.Touch {
	return api.Touch{Path: path, Digest: digest.Sum(s.files[path])}
}

// Visible returns the files that the next step may read; none, if there is no next step, or the fault of a recipe comes before it.
func (s *Sandbox) Visible() api.Tree {
	if len(s.tasks) == 0 || s.tasks[0].fault.Error != api.OK {
		return nil
	}
	return s.visible(s.tasks[0])
}

// visible returns the files that a task may read: those of its package, and those that were installed, which the packages before have done.
func (s *Sandbox) visible(t task) api.Tree {
	return s.choose(func(path string) bool {
		return strings.HasPrefix(path, t.name+"/") || s.installed[path]
	})
}

// choose returns the files whose paths a function chooses.
func (s *Sandbox) choose(chosen func(path string) bool) api.Tree {
	var t api.Tree
	for _, p := range slices.Sorted(maps.Keys(s.files)) {
		if chosen(p) {
			t = append(t, api.File{Path: p, Data: s.files[p]})
		}
	}
	return t
}

// Result returns what was built up to now.
func (s *Sandbox) Result() api.Built {
	b := api.Built{
		Files:     s.choose(func(string) bool { return true }),
		Installed: slices.Sorted(maps.Keys(s.installed)),
	}
	for _, d := range s.record {
		d.Reads = slices.Clone(d.Reads)
		b.Record = append(b.Record, d)
	}
	return b
}

// Clone returns an independent copy.
func (s *Sandbox) Clone() *Sandbox {
	c := *s
	c.files, c.installed, c.record = maps.Clone(s.files), maps.Clone(s.installed), slices.Clone(s.record)
	return &c
}
