package sample

import (
	"strconv"

	"licit/api"
)

// Example returns the distribution of the example of layer 19, to which other layers come back.
func Example() api.Distribution {
	return api.Distribution{Package("app", join("patch x with p to y", "install y as z"), "x", "a\nb", "p", "keep 1\ndrop 1\nadd 1\nc")}
}

// Factory returns a distribution in which each kind of artifact is made. The generator of lib prints a source file; app is linked with a library of lib.
func Factory() api.Distribution {
	lib := Package("lib",
		join("compile gen.src to gen.o", "link main gen.o to gen", "install gen as out/gen", "compile g.src to g.o", "share g.o to g.so", "install g.so as out/g.so"),
		"gen.src", join("note 1", "prints", body("export fn main", "let c = in ( )", "while c != 4294967295 2", "out c", "set c = in ( )")),
		"g.src", join(body("export fn g", "return 65"), body("export data h", "7")))
	app := Package("app",
		join("run @lib/out/gen on f.txt to f.src", "compile f.src to f.o", "compile m.src to m.o", "archive f.o m.o to l.a",
			"link main m.o using l.a @lib/out/g.so to bin", "run bin using @lib/out/g.so on in to text",
			"install bin as out/bin", "install l.a as out/l.a", "install m.o as out/m.o", "install text as out/text", "install f.src as out/f.src", "install in as out/in"),
		"f.txt", join("extern g", body("export fn f", "return g ( )"), body("export fn unused", "return 3")),
		"m.src", join("extern f", body("export fn main", "out f ( )", "do 0")),
		"in", "")
	return api.Distribution{lib, app}
}

// Show writes a segment: its path, the member behind !, and :n for a line, #n for a section, [] for an export list, and nothing for the file.
func Show(s api.Segment) string {
	text := s.Path
	if s.Member != "" {
		text += "!" + s.Member
	}
	switch s.Kind {
	case api.SegmentLine:
		return text + ":" + strconv.Itoa(s.Index)
	case api.SegmentSection:
		return text + "#" + strconv.Itoa(s.Index)
	case api.SegmentList:
		text += "[]"
	}
	if s.Index != 0 {
		text += "?"
	}
	return text
}
