package tree

import (
	"slices"
	"strings"
	"testing"

	"licit/api"
)

// P3.4 and P3.6: lines are the parts between line feeds; joining them leads back.
func TestLines(t *testing.T) {
	for i, x := range []struct {
		data string
		want []string
	}{
		{"", []string{""}},
		{"x", []string{"x"}},
		{"x\n", []string{"x", ""}},
		{"\n", []string{"", ""}},
		{"x\ny", []string{"x", "y"}},
		{"\nx\n\ny\n", []string{"", "x", "", "y", ""}},
		{"a\r\nb\x00", []string{"a\r", "b\x00"}},
		{strings.Repeat("\n", api.MaxLines-1), make([]string, api.MaxLines)},
		{strings.Repeat("x", api.MaxData), []string{strings.Repeat("x", api.MaxData)}},
	} {
		lines, e := Lines(x.data)
		if e != api.OK || !slices.Equal(lines, x.want) {
			t.Error(i, e, len(lines))
		}
		if data, e := Join(x.want); e != api.OK || data != x.data {
			t.Error(i, e, len(data))
		}
	}
}

// P3.4: what is not a text has no lines.
func TestNoText(t *testing.T) {
	for i, data := range []string{
		strings.Repeat("\n", api.MaxLines),
		strings.Repeat("x", api.MaxData+1),
		strings.Repeat("x", api.MaxData) + "\n",
		strings.Repeat("\n", 1<<20),
	} {
		if lines, e := Lines(data); e != api.ErrTooLarge || lines != nil {
			t.Error(i, e)
		}
	}
}

// P3.4: the first error of joining.
func TestJoinErrors(t *testing.T) {
	half := strings.Repeat("x", api.MaxData/2)
	for i, x := range []struct {
		lines []string
		e     api.Errno
	}{
		{nil, api.ErrArg},
		{[]string{}, api.ErrArg},
		{[]string{"\n"}, api.ErrArg},
		{[]string{"a", "b\nc"}, api.ErrArg},
		{append(make([]string, api.MaxLines), "\n"), api.ErrArg},
		{[]string{half, half, half, "\n"}, api.ErrArg},
		{make([]string, api.MaxLines+1), api.ErrTooLarge},
		{[]string{half, half}, api.ErrTooLarge},
		{[]string{half + half + "x"}, api.ErrTooLarge},
		{[]string{half, half[1:]}, api.OK},
		{make([]string, api.MaxLines), api.OK},
	} {
		if data, e := Join(x.lines); e != x.e || e != api.OK && data != "" {
			t.Error(i, e, x.e)
		}
	}
}

// P3.4: a line is replaced, also the last one, and one of a file without lines feeds.
func TestReplace(t *testing.T) {
	files := api.Tree{{Path: "a", Data: "x"}, {Path: "b", Data: "x\ny\n"}, {Path: "c"}}
	for i, x := range []struct {
		path string
		n    int
		text string
		want string
	}{
		{"a", 0, "new", "new"}, {"a", 0, "", ""},
		{"b", 0, "new", "new\ny\n"}, {"b", 1, "", "x\n\n"}, {"b", 2, "new", "x\ny\nnew"}, {"b", 2, "", "x\ny\n"},
		{"c", 0, "new", "new"},
	} {
		after, e := Replace(files, api.Line{Path: x.path, N: x.n}, x.text)
		want, _ := Put(files, api.File{Path: x.path, Data: x.want})
		if e != api.OK || !equal(after, want) {
			t.Error(i, e, after)
		}
	}
	if files[0].Data != "x" || files[1].Data != "x\ny\n" || files[2].Data != "" {
		t.Error("argument changed")
	}
	// up to the bounds of a text
	long := api.Tree{{Path: "a", Data: strings.Repeat("\n", api.MaxLines-1)}}
	line := strings.Repeat("x", api.MaxData-api.MaxLines+1)
	after, e := Replace(long, api.Line{Path: "a", N: api.MaxLines - 1}, line)
	if e != api.OK || after[0].Data != long[0].Data+line {
		t.Error(e)
	}
}

// P3.4: the first error of replacing.
func TestReplaceErrors(t *testing.T) {
	many := strings.Repeat("\n", api.MaxLines)
	files := api.Tree{{Path: "a", Data: "x\ny"}, {Path: "b", Data: many}, {Path: "c", Data: strings.Repeat("x", api.MaxData-1) + "\n"}}
	large := strings.Repeat("x", api.MaxData+1)
	for i, x := range []struct {
		line api.Line
		text string
		e    api.Errno
	}{
		{api.Line{Path: "d", N: -1}, "\n", api.ErrNotFound},
		{api.Line{}, "", api.ErrNotFound},
		{api.Line{Path: "A"}, "", api.ErrNotFound},
		{api.Line{Path: "b", N: -1}, "\n", api.ErrTooLarge},
		{api.Line{Path: "b"}, "", api.ErrTooLarge},
		{api.Line{Path: "a", N: -1}, "\n", api.ErrRange},
		{api.Line{Path: "a", N: 2}, "\n", api.ErrRange},
		{api.Line{Path: "a", N: 1 << 40}, "", api.ErrRange},
		{api.Line{Path: "a", N: 1}, "\n", api.ErrArg},
		{api.Line{Path: "a", N: 1}, large + "\n", api.ErrArg},
		{api.Line{Path: "a", N: 1}, large, api.ErrTooLarge},
		{api.Line{Path: "c", N: 1}, "x", api.ErrTooLarge},
		{api.Line{Path: "c", N: 1}, "", api.OK},
	} {
		if after, e := Replace(files, x.line, x.text); e != x.e || e != api.OK && after != nil {
			t.Error(i, e, x.e)
		}
	}
	for i, files := range noTrees() {
		if after, e := Replace(files, api.Line{Path: "nowhere", N: -1}, "\n"); e != api.ErrArg || after != nil {
			t.Error(i, e)
		}
	}
}
