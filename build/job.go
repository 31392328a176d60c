package build

import (
	"licit/api"
	"licit/binary"
	"licit/compile"
	"licit/emulate"
	"licit/link"
	"licit/linkage"
	"licit/object"
	"licit/patch"
)

// job is a step with the files that it reads, and what it leads to.
type job struct {
	kind      int
	words     []string
	visible   api.Tree // the files that it may read
	in, using []api.File
	out       string

	data string
	also []string // the files that were read beside those of in and using
	at   api.Line // where a source file has an error
}

// do does the job: the error of its kind. No kind makes more than MaxData bytes: what the layers below return keeps to that, and files have no more.
func (j *job) do() (e api.Errno) {
	doing := []func(*job) (string, api.Errno){
		api.StepCompile: (*job).compile,
		api.StepArchive: (*job).archive,
		api.StepShare:   (*job).share,
		api.StepLink:    (*job).link,
		api.StepRun:     (*job).run,
		api.StepPatch:   (*job).patch,
		api.StepCopy:    (*job).copy,
		api.StepInstall: (*job).copy,
	}
	j.data, e = doing[j.kind](j)
	return e
}

// reads returns the paths of the files that were read, in order; a path may occur several times.
func (j *job) reads() []string {
	var l []string
	for _, f := range j.in {
		l = append(l, f.Path)
	}
	for _, f := range j.using {
		l = append(l, f.Path)
	}
	return append(l, j.also...)
}

// compile returns the bytes of the object of a unit.
func (j *job) compile() (string, api.Errno) {
	o, reading, f := compile.Unit(j.visible, j.in[0].Path, j.words)
	if f.Error != api.OK {
		j.at = f.At
		return "", f.Error
	}
	j.also = reading.Files
	return object.Encode(o)
}

// archive returns the bytes of an archive of objects.
func (j *job) archive() (string, api.Errno) {
	l, e := linkage.Objects(j.in)
	if e != api.OK {
		return "", e
	}
	return object.Pack(l)
}

// share returns the bytes of a shared library of objects.
func (j *job) share() (string, api.Errno) {
	l, e := linkage.Objects(j.in)
	if e != api.OK {
		return "", e
	}
	b, _, e := link.Share(l)
	if e != api.OK {
		return "", e
	}
	return binary.Encode(b)
}

// link returns the bytes of a program.
func (j *job) link() (string, api.Errno) {
	l, e := linkage.Objects(j.in)
	if e != api.OK {
		return "", e
	}
	shelves, libs, e := linkage.Using(j.using)
	if e != api.OK {
		return "", e
	}
	b, _, e := link.Link(j.words[0], l, shelves, libs)
	if e != api.OK {
		return "", e
	}
	return binary.Encode(b)
}

// run returns the output of a program.
func (j *job) run() (string, api.Errno) {
	program, e := binary.Decode(j.in[0].Data)
	if e != api.OK {
		return "", e
	}
	var libs []api.Library
	for _, f := range j.using {
		b, e := binary.Decode(f.Data)
		if e != api.OK {
			return "", e
		}
		libs = append(libs, api.Library{Path: f.Path, Binary: b})
	}
	r, e := emulate.Run(program, libs, j.in[1].Data, api.MaxSteps)
	return r.Output, e
}

// patch returns the result of a patch.
func (j *job) patch() (string, api.Errno) {
	p, e := patch.Parse(j.in[1].Data)
	if e != api.OK {
		return "", e
	}
	return patch.Apply(p, j.in[0].Data)
}

// copy returns the data of a file.
func (j *job) copy() (string, api.Errno) { return j.in[0].Data, api.OK }
