package sample

import (
	"strconv"
	"strings"

	"licit/api"
	"licit/binary"
	"licit/compile"
	"licit/link"
	"licit/object"
	"licit/patch"
)

// body returns a head with the number of the lines of its body, and these lines.
func body(head string, parts ...string) string {
	text := join(parts...)
	return head + " " + strconv.Itoa(1+strings.Count(text, "\n")) + "\n" + text
}

// join returns the text that consists of some parts.
func join(parts ...string) string { return strings.Join(parts, "\n") }

// printer returns a program that outputs a text.
func printer(text string) string {
	var lines []string
	for i := range len(text) {
		lines = append(lines, "out "+strconv.Itoa(int(text[i])))
	}
	return body("export fn main", lines...)
}

// The texts of source files: a header with macros, groups and weak data; a main that copies its input and calls f; an f that calls g; two kinds of g.
func header() string {
	return join(
		body("note", "anything"),
		body("define two", "2"),
		body("define inc x", "( x", "+ 1 )"),
		body("when big", "define wide 1", "8"),
		body("unless big", body("weak data rest", "7"), ""),
		body("weak data table", "1, two", "( 3 )"),
		body("fn idle", "return 0"),
		"",
	)
}

func mainText() string {
	return join(
		"include h.src", "extern f",
		body("export fn main", "let c = in ( )", "while c != 4294967295 2", "out c", "set c = in ( )", "if 0 1", "out 1", "out f ( two )"),
		body("export data more", "4", "5"),
	)
}

func fText() string {
	return join("extern g", "include h.src", body("fn help x", "return inc ( x )"), body("weak fn f x", "return help ( g ( ) ) + x"), body("when odd", body("export data odd", "1")))
}

func gText() string {
	return join(body("export fn g", "return 65"), body("weak fn f", "return 66"), "")
}

func otherText() string {
	return join("include h.src", body("export fn g", "return load ( table )"), body("export data last", "g, table"))
}

// ready returns the bytes of objects, an archive, a library and a program that are made of these texts, by the name of a file.
func ready() map[string]string {
	t := api.Tree{{Path: "z/f.src", Data: fText()}, {Path: "z/g.src", Data: gText()}, {Path: "z/h.src", Data: header()}, {Path: "z/main.src", Data: mainText()}}
	files := map[string]string{}
	unit := func(name string) api.Member {
		o, _, _ := compile.Unit(t, "z/"+name+".src", nil)
		files[name+".o"], _ = object.Encode(o)
		return api.Member{Name: "z/" + name + ".o", Object: o}
	}
	f, g, main := unit("f"), unit("g"), unit("main")
	files["ready.a"], _ = object.Pack([]api.Member{f, g})
	library, _, _ := link.Share([]api.Member{g})
	files["ready.so"], _ = binary.Encode(library)
	program, _, _ := link.Link("main", []api.Member{main, f, g}, nil, nil)
	files["ready.bin"], _ = binary.Encode(program)
	return files
}

// difference returns the text of a patch of the header that changes a line that is read, and one that is not, and adds some.
func difference() string {
	h := header()
	changed := strings.NewReplacer("anything", "6", "( 3 )", "9").Replace(h) + "\nnote 0\n"
	p, _ := patch.Make(h, changed)
	text, _ := patch.Print(p)
	return text
}

// plot returns steps that depend on each other: what they lead to is seldom made by chance.
func (m Maker) plot() []string {
	plots := [][]string{
		{},
		{"link main main.o f.o g.o to gen.bin", "run gen.bin on text to made.txt", "install made.txt as out/made.txt"},
		{"share g.o to g.so", "link main main.o f.o using g.so to over.bin", "run over.bin using g.so on h.src to made.src", "install over.bin as out/over.bin", "install made.src as made"},
		{"compile print.src to print.o", "link main print.o to print.bin", "run print.bin on empty to made.src", "compile made.src to made.o", "link main main.o f.o made.o to last.bin", "install last.bin as out/last.bin"},
		{"archive g.o f.o to l.a", "link main main.o using l.a to last.bin", "install last.bin as out/last.bin", "install l.a as out/l.a"},
		{"patch h.src with h.diff to new.src", "install new.src as out/new.src", "compile new.src to new.o with big"},
	}
	return plots[m.Intn(len(plots))]
}

// begin returns a package whose recipe makes most of the objects that other steps use. The others are there already, like files of any kind: no step has written them.
func (m Maker) begin(name string) api.Package {
	files := ready()
	files["h.src"], files["h.diff"], files["empty"], files["text"] = header(), difference(), "", "a\nb\n"
	files["main.src"], files["f.src"], files["g.src"], files["print.src"] = mainText(), fText(), m.pick(gText(), otherText()), printer(gText())
	for _, path := range []string{"ready.a", "ready.so", "ready.bin"} {
		if m.Intn(2) > 0 {
			delete(files, path)
		}
	}
	var recipe []string
	for _, unit := range []string{"main", "f", "g"} {
		if m.Intn(4) > 0 {
			delete(files, unit+".o")
			recipe = append(recipe, "compile "+unit+".src to "+unit+".o")
		}
	}
	var parts []string
	for path, data := range files {
		parts = append(parts, path, data)
	}
	return Package(name, join(append(recipe, m.plot()...)...), parts...)
}
