package influence

import (
	"fmt"
	"slices"
	"strings"
	"testing"

	"licit/api"
	"licit/sample"
)

// pack returns a package with the lines of a recipe, and paths and data of other files in turn.
func pack(name string, recipe []string, parts ...string) api.Package {
	return sample.Package(name, lines(recipe...), parts...)
}

// lines joins lines.
func lines(l ...string) string { return strings.Join(l, "\n") }

// sp returns a span.
func sp(path string, from, to int) api.Span { return api.Span{Path: path, From: from, To: to} }

// set writes a set of lines: "a/x 0-2, a/y 3" are three lines of a/x, and one of a/y.
func set(l api.Lines) string {
	var words []string
	for _, s := range l {
		word := fmt.Sprintf("%s %d", s.Path, s.From)
		if s.To > s.From+1 {
			word += fmt.Sprintf("-%d", s.To-1)
		}
		words = append(words, word)
	}
	return strings.Join(words, ", ")
}

// show writes an origin: the set In, and behind the words by and list the other ones, unless they are empty.
func show(o api.Origin) string {
	text := set(o.In)
	if len(o.By) > 0 {
		text += " by " + set(o.By)
	}
	if len(o.List) > 0 {
		text += " list " + set(o.List)
	}
	return text
}

// showInfluence writes an influence, a line for what is whole, one for the recipes, and two for each section.
func showInfluence(i api.Influence) []string {
	l := []string{i.Output, show(i.Whole), set(i.Recipes)}
	for _, s := range i.Sections {
		l = append(l, s.Object+" "+s.Symbol+": "+show(s.Content), show(s.Layout))
	}
	return l
}

// showMarks writes marked segments: the path, the member behind !, and :n for a line, #n for a section, [] for an export list, then the origin.
func showMarks(l []api.Marked) []string {
	var words []string
	for _, m := range l {
		text := m.Segment.Path
		if m.Segment.Member != "" {
			text += "!" + m.Segment.Member
		}
		switch m.Segment.Kind {
		case api.SegmentLine:
			text += fmt.Sprintf(":%d", m.Segment.Index)
		case api.SegmentSection:
			text += fmt.Sprintf("#%d", m.Segment.Index)
		case api.SegmentList:
			text += "[]"
		}
		words = append(words, text+" < "+show(m.Origin))
	}
	return words
}

// equal compares texts.
func equal(t *testing.T, got []string, want ...string) {
	t.Helper()
	if slices.Equal(got, want) {
		return
	}
	for i := range max(len(got), len(want)) {
		if i >= len(got) || i >= len(want) || got[i] != want[i] {
			t.Errorf("%d: %q, want %q", i, got[i:min(i+1, len(got))], want[i:min(i+1, len(want))])
		}
	}
}

// expect compares the influence of an output.
func expect(t *testing.T, d api.Distribution, output string, want ...string) {
	t.Helper()
	i, f := Of(d, output)
	if f != (api.Fault{}) {
		t.Fatal(output, f)
	}
	equal(t, showInfluence(i), append([]string{output}, want...)...)
}

// expectMarks compares the marks of a file.
func expectMarks(t *testing.T, d api.Distribution, path string, want ...string) {
	t.Helper()
	l, f := Marks(d, path)
	if f != (api.Fault{}) {
		t.Fatal(path, f)
	}
	equal(t, showMarks(l), want...)
}

// example is the distribution of the chapter.
func example() api.Distribution {
	return api.Distribution{pack("app", []string{"patch x with p to y", "install y as z"}, "x", "a\nb", "p", "keep 1\ndrop 1\nadd 1\nc")}
}

// factory is a distribution in which each kind of artifact is made. The generator of lib prints a source file; app is linked with a library of lib.
func factory() api.Distribution {
	lib := pack("lib", []string{"compile gen.src to gen.o", "link main gen.o to gen", "install gen as out/gen", "compile g.src to g.o", "share g.o to g.so", "install g.so as out/g.so"},
		"gen.src", lines("note 1", "prints", "export fn main 4", "let c = in ( )", "while c != 4294967295 2", "out c", "set c = in ( )"),
		"g.src", lines("export fn g 1", "return 65", "export data h 1", "7"))
	app := pack("app", []string{
		"run @lib/out/gen on f.txt to f.src", "compile f.src to f.o", "compile m.src to m.o", "archive f.o m.o to l.a",
		"link main m.o using l.a @lib/out/g.so to bin", "run bin using @lib/out/g.so on in to text",
		"install bin as out/bin", "install l.a as out/l.a", "install m.o as out/m.o", "install text as out/text", "install f.src as out/f.src", "install in as out/in",
	},
		"f.txt", lines("extern g", "export fn f 1", "return g ( )", "export fn unused 1", "return 3"),
		"m.src", lines("extern f", "export fn main 2", "out f ( )", "do 0"),
		"in", "")
	return api.Distribution{lib, app}
}
