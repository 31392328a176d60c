package normalize

import (
	"math"
	"slices"
	"strings"
	"testing"

	"licit/api"
	"licit/sample"
)

// P23.2: texts that are valid, and those that break a condition.
func TestValid(t *testing.T) {
	for i, x := range validTexts() {
		if !Valid(x) {
			t.Error(i, x.Path)
		}
	}
	for i, x := range sample.BadTexts() {
		if Valid(x) {
			t.Error(i, x.Path, x.Words[:min(len(x.Words), 3)])
		}
	}
}

// P23.2: each byte as a word, and in one.
func TestValidBytes(t *testing.T) {
	for c := range 256 {
		b := string([]byte{byte(c)})
		for _, s := range []string{b, b + "x", "x" + b, "x" + b + "y", b + b, "é" + b, b + "é"} {
			if got, want := Valid(api.Text{Path: "a", Words: []api.Lexeme{word(s, 0)}}), c > 32 && c != 127; got != want {
				t.Errorf("%q %v", s, got)
			}
		}
	}
}

// P23.2: printed forms: lines with several words, with one, and without words.
func TestPrint(t *testing.T) {
	for i, x := range []struct {
		text api.Text
		want string
	}{
		{sample.Text("a"), ""},
		{sample.Text("a", "0 x"), "0: x\n"},
		{sample.Text("a", "0 let x1 = 10 ;"), "0: let x1 = 10 ;\n"},
		{sample.Text("b/c", "0 let x1 = 10 ;", "2 let y", "3 z"), "0: let x1 = 10 ;\n2: let y\n3: z\n"},
		{sample.Text("a", "9 x", "10 y z", "99 x", "100 y", "1023 z z"), "9: x\n10: y z\n99: x\n100: y\n1023: z z\n"},
		// words of one line, however they are written here
		{sample.Text("a", "7 x", "7 y", "8 y", "8 x"), "7: x y\n8: y x\n"},
		{sample.Text("a", "0 $n $n = $0 ;"), "0: $n $n = $0 ;\n"},
		{sample.Text("a", "0 0: : 1:", "1 :"), "0: 0: : 1:\n1: :\n"},
		{sample.Text("a", "5 \xff \x80 é"), "5: \xff \x80 é\n"},
	} {
		if s, e := Print(x.text); e != api.OK || s != x.want {
			t.Errorf("%d %q %v", i, s, e)
		}
	}
	s, e := Print(sample.Many(api.MaxWords))
	if lines := strings.Split(s, "\n"); e != api.OK || len(lines) != (api.MaxWords+9)/10+1 || lines[819] != "819: w0 w1" || lines[820] != "" {
		t.Error(len(lines), e)
	}
}

// P23.2: the lines of runs of words.
func TestLines(t *testing.T) {
	// the words 0 to 4 stand in the line 0, 5 and 6 in 2, 7 in 3, and 8 in 1023
	x := sample.Text("a/x", "0 let x1 = 10 ;", "2 let y", "3 z", "1023 end")
	for _, y := range []struct {
		from, to int
		want     api.Lines
	}{
		{0, 0, nil}, {3, 3, nil}, {5, 5, nil}, {9, 9, nil},
		{0, 1, api.Lines{{Path: "a/x", From: 0, To: 1}}},
		{2, 4, api.Lines{{Path: "a/x", From: 0, To: 1}}},
		{0, 5, api.Lines{{Path: "a/x", From: 0, To: 1}}},
		{4, 6, api.Lines{{Path: "a/x", From: 0, To: 1}, {Path: "a/x", From: 2, To: 3}}},
		{5, 7, api.Lines{{Path: "a/x", From: 2, To: 3}}},
		{6, 8, api.Lines{{Path: "a/x", From: 2, To: 4}}},
		{0, 8, api.Lines{{Path: "a/x", From: 0, To: 1}, {Path: "a/x", From: 2, To: 4}}},
		{8, 9, api.Lines{{Path: "a/x", From: 1023, To: 1024}}},
		{0, 9, api.Lines{{Path: "a/x", From: 0, To: 1}, {Path: "a/x", From: 2, To: 4}, {Path: "a/x", From: 1023, To: 1024}}},
	} {
		if l, e := Lines(x, y.from, y.to); e != api.OK || !slices.Equal(l, y.want) {
			t.Error(y.from, y.to, l, e)
		}
	}
	for _, y := range [][2]int{{-1, 0}, {-1, 5}, {-1, -1}, {3, 2}, {0, 10}, {9, 10}, {10, 10}, {10, 9}, {9, 8}, {0, -1}, {math.MinInt, 0}, {0, math.MaxInt}, {math.MinInt, math.MaxInt}, {math.MaxInt, math.MinInt}, {math.MaxInt, math.MaxInt}} {
		if l, e := Lines(x, y[0], y[1]); e != api.ErrRange || l != nil {
			t.Error(y, l, e)
		}
	}
	if l, e := Lines(sample.Text("a"), 0, 0); e != api.OK || l != nil {
		t.Error(l, e)
	}
	for _, y := range [][2]int{{0, 1}, {1, 1}, {-1, 0}} {
		if l, e := Lines(sample.Text("a"), y[0], y[1]); e != api.ErrRange || l != nil {
			t.Error(y, l, e)
		}
	}
	if l, e := Lines(sample.Many(api.MaxWords), 0, api.MaxWords); e != api.OK || !slices.Equal(l, api.Lines{{Path: "many", From: 0, To: 820}}) {
		t.Error(l, e)
	}
}

// P23.2: a text that is not valid has neither a printed form nor lines, whatever the range is.
func TestInvalid(t *testing.T) {
	for i, x := range sample.BadTexts() {
		if s, e := Print(x); e != api.ErrArg || s != "" {
			t.Errorf("%d %q %v", i, s, e)
		}
		for _, y := range [][2]int{{0, 0}, {0, 1}, {-1, 0}, {1, 0}, {0, len(x.Words)}, {0, len(x.Words) + 1}} {
			if l, e := Lines(x, y[0], y[1]); e != api.ErrArg || l != nil {
				t.Error(i, y, l, e)
			}
		}
	}
}

// P23.3: positions at the ends of texts and between them.
func TestCommon(t *testing.T) {
	a := sample.Text("a", "0 x y z", "1 x y u")
	// the same words in other lines, and then others
	b := sample.Text("b", "0 y", "1 z x", "5 y u", "7 v")
	for _, x := range []struct{ i, j, want int }{
		{0, 0, 0}, {1, 0, 5}, {2, 1, 4}, {3, 2, 3}, {5, 4, 1}, {4, 0, 1}, {1, 3, 1}, {0, 2, 2}, {0, 5, 0}, {5, 5, 0}, {4, 3, 2},
		// behind the last word
		{6, 0, 0}, {0, 6, 0}, {6, 6, 0}, {6, 5, 0}, {5, 6, 0},
		// beyond the ends
		{7, 0, 0}, {1, 7, 0}, {7, 7, 0}, {-1, 0, 0}, {1, -1, 0}, {-1, -1, 0}, {math.MinInt, 0, 0}, {1, math.MinInt, 0}, {math.MaxInt, 0, 0}, {1, math.MaxInt, 0},
	} {
		if n := Common(a, x.i, b, x.j); n != x.want {
			t.Error(x, n)
		}
		if n := Common(b, x.j, a, x.i); n != x.want {
			t.Error(x, n)
		}
	}
	for i := range 7 {
		if n := Common(a, i, a, i); n != 6-i {
			t.Error(i, n)
		}
	}
	if n := Common(a, 0, a, 3); n != 2 {
		t.Error(n)
	}
	if n := Common(sample.Text("a"), 0, sample.Text("a"), 0); n != 0 {
		t.Error(n)
	}
	if n := Common(sample.Many(api.MaxWords), 0, sample.Many(api.MaxWords), 10); n != api.MaxWords-10 {
		t.Error(n)
	}
	// words are compared as they are
	if n := Common(sample.Text("a", "0 x"), 0, sample.Text("a", "0 X"), 0); n != 0 {
		t.Error(n)
	}
	if n := Common(sample.Text("a", "0 x y"), 0, sample.Text("a", "0 xy"), 0); n != 0 {
		t.Error(n)
	}
}

// P23.3: a text that is not valid has nothing in common with another one, nor with itself.
func TestCommonInvalid(t *testing.T) {
	good := sample.Text("a", "5 x")
	for i, x := range sample.BadTexts() {
		for _, y := range []api.Text{good, x} {
			if n := Common(x, 0, y, 0); n != 0 {
				t.Error(i, n)
			}
			if n := Common(y, 0, x, 0); n != 0 {
				t.Error(i, n)
			}
		}
	}
}

// P23.2, P23.3: arguments are not changed, and results share no memory with them.
func TestMemory(t *testing.T) {
	x, y := sample.Text("a", "0 x y", "1 z", "1 x"), sample.Text("a", "0 x y", "1 z", "1 x")
	before := slices.Clone(x.Words)
	l, _ := Lines(x, 0, 4)
	m, _ := Lines(x, 0, 4)
	clear(l)
	Print(x)
	Valid(x)
	Common(x, 0, y, 0)
	if !slices.Equal(x.Words, before) || !slices.Equal(y.Words, before) || !slices.Equal(m, api.Lines{{Path: "a", From: 0, To: 2}}) {
		t.Error(x, y, m)
	}
}
