package linkage

import (
	"slices"
	"testing"

	"licit/api"
	"licit/binary"
	"licit/compile"
	"licit/link"
	"licit/object"
)

// files returns files with the bytes of an object, an archive, a library and a program.
func files(t *testing.T) (o, archive, library, program api.File) {
	t.Helper()
	x, _, f := compile.Unit(api.Tree{{Path: "a/f", Data: "export fn f 0"}}, "a/f", nil)
	if f.Error != api.OK {
		t.Fatal(f)
	}
	m := []api.Member{{Name: "a/f.o", Object: x}}
	shared, _, _ := link.Share(m)
	linked, _, _ := link.Link("f", m, nil, nil)
	bytes, e1 := object.Encode(x)
	packed, e2 := object.Pack(m)
	so, e3 := binary.Encode(shared)
	bin, e4 := binary.Encode(linked)
	if e1 != api.OK || e2 != api.OK || e3 != api.OK || e4 != api.OK {
		t.Fatal(e1, e2, e3, e4)
	}
	return api.File{Path: "a/o", Data: bytes}, api.File{Path: "a/a", Data: packed}, api.File{Path: "a/so", Data: so}, api.File{Path: "a/bin", Data: bin}
}

// Objects are named by their paths, in order; another file is an error.
func TestObjects(t *testing.T) {
	o, archive, library, program := files(t)
	other := api.File{Path: "b/o", Data: o.Data}
	l, e := Objects([]api.File{other, o})
	if e != api.OK || len(l) != 2 || l[0].Name != "b/o" || l[1].Name != "a/o" || l[1].Object.Symbols[0].Name != "f" {
		t.Error(l, e)
	}
	if l, e := Objects(nil); e != api.OK || l != nil {
		t.Error(l, e)
	}
	for _, bad := range []api.File{archive, library, program, {}, {Path: "a/x", Data: o.Data + " "}} {
		for _, files := range [][]api.File{{bad}, {o, bad}, {bad, o}} {
			if l, e := Objects(files); e != api.ErrCorrupt || l != nil {
				t.Error(bad.Path, l, e)
			}
		}
	}
}

// Archives and libraries are told apart by their bytes; another file is an error.
func TestUsing(t *testing.T) {
	o, archive, library, program := files(t)
	other := library
	other.Path = "b/so"
	shelves, libs, e := Using([]api.File{other, archive, library})
	if e != api.OK || len(shelves) != 1 || shelves[0].Path != "a/a" || shelves[0].Members[0].Name != "a/f.o" {
		t.Error(shelves, e)
	}
	if paths := []string{libs[0].Path, libs[1].Path}; !slices.Equal(paths, []string{"b/so", "a/so"}) || libs[0].Binary.Kind != api.Shared {
		t.Error(libs)
	}
	if shelves, libs, e := Using(nil); e != api.OK || shelves != nil || libs != nil {
		t.Error(shelves, libs, e)
	}
	for _, bad := range []api.File{o, program, {}} {
		for _, files := range [][]api.File{{bad}, {archive, library, bad}, {bad, archive}} {
			if shelves, libs, e := Using(files); e != api.ErrCorrupt || shelves != nil || libs != nil {
				t.Error(bad.Path, e)
			}
		}
	}
}
