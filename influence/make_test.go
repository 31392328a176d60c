package influence

import (
	"fmt"
	"slices"
	"strings"
	"testing"

	"licit/api"
	"licit/sample"
)

// pack returns a package with the lines of a recipe, and paths and data of other files in turn.
func pack(name string, recipe []string, parts ...string) api.Package {
	return sample.Package(name, lines(recipe...), parts...)
}

// lines joins lines.
func lines(l ...string) string { return strings.Join(l, "\n") }

// sp returns a span.
func sp(path string, from, to int) api.Span { return api.Span{Path: path, From: from, To: to} }

// set writes a set of lines: "a/x 0-2, a/y 3" are three lines of a/x, and one of a/y.
func set(l api.Lines) string {
	var words []string
	for _, s := range l {
		word := fmt.Sprintf("%s %d", s.Path, s.From)
		if s.To > s.From+1 {
			word += fmt.Sprintf("-%d", s.To-1)
		}
		words = append(words, word)
	}
	return strings.Join(words, ", ")
}

// show writes an origin: the set In, and behind the words by and list the other ones, unless they are empty.
func show(o api.Origin) string {
	text := set(o.In)
	if len(o.By) > 0 {
		text += " by " + set(o.By)
	}
	if len(o.List) > 0 {
		text += " list " + set(o.List)
	}
	return text
}

// showInfluence writes an influence, a line for what is whole, one for the recipes, and two for each section.
func showInfluence(i api.Influence) []string {
	l := []string{i.Output, show(i.Whole), set(i.Recipes)}
	for _, s := range i.Sections {
		l = append(l, s.Object+" "+s.Symbol+": "+show(s.Content), show(s.Layout))
	}
	return l
}

// showMarks writes marked segments, each with its origin.
func showMarks(l []api.Marked) []string {
	var words []string
	for _, m := range l {
		words = append(words, sample.Show(m.Segment)+" < "+show(m.Origin))
	}
	return words
}

// equal compares texts.
func equal(t *testing.T, got []string, want ...string) {
	t.Helper()
	if slices.Equal(got, want) {
		return
	}
	for i := range max(len(got), len(want)) {
		if i >= len(got) || i >= len(want) || got[i] != want[i] {
			t.Errorf("%d: %q, want %q", i, got[i:min(i+1, len(got))], want[i:min(i+1, len(want))])
		}
	}
}

// expect compares the influence of an output.
func expect(t *testing.T, d api.Distribution, output string, want ...string) {
	t.Helper()
	i, f := Of(d, output)
	if f != (api.Fault{}) {
		t.Fatal(output, f)
	}
	equal(t, showInfluence(i), append([]string{output}, want...)...)
}

// expectMarks compares the marks of a file.
func expectMarks(t *testing.T, d api.Distribution, path string, want ...string) {
	t.Helper()
	l, f := Marks(d, path)
	if f != (api.Fault{}) {
		t.Fatal(path, f)
	}
	equal(t, showMarks(l), want...)
}

// example is the distribution of the chapter.
func example() api.Distribution { return sample.Example() }

// factory is a distribution in which each kind of artifact is made.
func factory() api.Distribution { return sample.Factory() }
