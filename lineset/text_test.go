package lineset

import (
	"slices"
	"testing"

	"licit/api"
)

// P16.4: the texts of sets, which lead back to them.
func TestTexts(t *testing.T) {
	for i, x := range []struct {
		set  api.Lines
		text string
	}{
		{nil, ""},
		{api.Lines{sp("a/x", 1, 4), sp("a/y", 0, 1)}, "a/x 1 4\na/y 0 1\n"},
		{api.Lines{sp("a", 0, 9), sp("a", 10, 99), sp("a", 100, 999), sp("a", 1000, 1024)}, "a 0 9\na 10 99\na 100 999\na 1000 1024\n"},
		{api.Lines{sp("a", 0, 1024)}, "a 0 1024\n"},
		{api.Lines{sp("0", 1023, 1024), sp("a-b", 0, 1), sp("a/b", 0, 1)}, "0 1023 1024\na-b 0 1\na/b 0 1\n"},
		{api.Lines{sp(longPath(), 7, 8)}, longPath() + " 7 8\n"},
	} {
		if s, e := Print(x.set); e != api.OK || s != x.text {
			t.Errorf("%d %q %v", i, s, e)
		}
		if l, n, e := Parse(x.text); e != api.OK || n != -1 || !slices.Equal(l, x.set) {
			t.Error(i, l, n, e)
		}
	}
}

// P16.4: sets that are not valid have no text.
func TestPrintErrors(t *testing.T) {
	for i, l := range invalidSets() {
		if s, e := Print(l); e != api.ErrArg || s != "" {
			t.Errorf("%d %q %v", i, s, e)
		}
	}
}

// P16.4: the errors of a line, in their order, as the first line and behind others.
func TestParseErrors(t *testing.T) {
	for _, x := range []struct {
		line string
		e    api.Errno
	}{
		{"\n", api.ErrSyntax}, {" \n", api.ErrSyntax}, {"  \n", api.ErrSyntax},
		// without its end
		{"m 1 2", api.ErrSyntax}, {"m", api.ErrSyntax}, {" ", api.ErrSyntax}, {"m 1 2\r", api.ErrSyntax},
		// not three parts
		{"m\n", api.ErrSyntax}, {"m 1\n", api.ErrSyntax}, {"1 2\n", api.ErrSyntax}, {"m 1 2 3\n", api.ErrSyntax}, {"m n 1 2\n", api.ErrSyntax},
		{"m  1 2\n", api.ErrSyntax}, {"m 1  2\n", api.ErrSyntax}, {"m 1 2 \n", api.ErrSyntax}, {" m 1 2\n", api.ErrSyntax}, {"m\t1 2\n", api.ErrSyntax}, {"m 1 2\r\n", api.ErrSyntax},
		{"m 1 \n", api.ErrSyntax}, {"m  2\n", api.ErrSyntax},
		// no numbers
		{"m +1 2\n", api.ErrSyntax}, {"m 1 +2\n", api.ErrSyntax}, {"m -1 2\n", api.ErrSyntax}, {"m 1 -2\n", api.ErrSyntax}, {"m -0 2\n", api.ErrSyntax},
		{"m 01 2\n", api.ErrSyntax}, {"m 1 02\n", api.ErrSyntax}, {"m 00 2\n", api.ErrSyntax}, {"m 0x1 2\n", api.ErrSyntax}, {"m 1_0 20\n", api.ErrSyntax}, {"m a 2\n", api.ErrSyntax}, {"m 1 b\n", api.ErrSyntax}, {"m 1.0 2\n", api.ErrSyntax}, {"m ٣ 4\n", api.ErrSyntax},
		{"m 0 00002\n", api.ErrSyntax}, {"m 0 10000\n", api.ErrSyntax}, {"m 10000 2\n", api.ErrSyntax}, {"m 0 99999999999999999999\n", api.ErrSyntax},
		// no path
		{" 1 2\n", api.ErrName}, {"M 1 2\n", api.ErrName}, {"m/ 1 2\n", api.ErrName}, {".m 1 2\n", api.ErrName}, {longPath() + "q 1 2\n", api.ErrName}, {"m\t 1 2\n", api.ErrName}, {"m:n 1 2\n", api.ErrName},
		// no span
		{"m 0 0\n", api.ErrRange}, {"m 2 2\n", api.ErrRange}, {"m 3 2\n", api.ErrRange}, {"m 0 1025\n", api.ErrRange}, {"m 1024 1024\n", api.ErrRange}, {"m 1024 1025\n", api.ErrRange}, {"m 0 9999\n", api.ErrRange}, {"m 9998 9999\n", api.ErrRange},
		// two errors at once
		{"M x 2", api.ErrSyntax}, {"M 3 x\n", api.ErrSyntax}, {"M 3 2\n", api.ErrName}, {"M 0 1025\n", api.ErrName}, {"M 1 2", api.ErrSyntax},
	} {
		for before, n := range map[string]int{"": 0, "a 0 1\n": 1, "a 0 1\na 2 3\nb 1 4\n": 3, "z 1 2\n": 1} {
			for _, behind := range []string{"", "m 1 2\n", "M\n"} {
				if behind != "" && x.line[len(x.line)-1] != '\n' {
					continue
				}
				if l, at, e := Parse(before + x.line + behind); e != x.e || at != n || l != nil {
					t.Errorf("%q %q %v %d %v", before, x.line, l, at, e)
				}
			}
		}
	}
}

// P16.4: spans that may not stand behind the one before.
func TestParseOrder(t *testing.T) {
	for _, x := range []struct {
		text string
		n    int
		e    api.Errno
	}{
		{"m 1 4\nm 5 6\n", -1, api.OK},
		{"m 1 4\nm 4 6\n", 1, api.ErrOrder},
		{"m 1 4\nm 3 6\n", 1, api.ErrOrder},
		{"m 1 4\nm 2 3\n", 1, api.ErrOrder},
		{"m 1 4\nm 1 4\n", 1, api.ErrOrder},
		{"m 3 4\nm 1 2\n", 1, api.ErrOrder},
		{"m 3 4\nm 0 1\n", 1, api.ErrOrder},
		{"m 3 4\nl 5 6\n", 1, api.ErrOrder},
		{"m/a 3 4\nm-a 5 6\n", 1, api.ErrOrder},
		{"m-a 3 4\nm/a 5 6\n", -1, api.OK},
		{"m 3 4\nm0 0 1\n", -1, api.OK},
		{"a 0 1\nb 0 1\na 2 3\n", 2, api.ErrOrder},
		{"a 0 1\na 2 3\na 3 4\nb 1\n", 2, api.ErrOrder},
		// the errors of the line itself come first
		{"m 3 4\nl 5 5\n", 1, api.ErrRange},
		{"m 3 4\nL 5 6\n", 1, api.ErrName},
		{"m 3 4\nl 5 6", 1, api.ErrSyntax},
		{"m 3 4\nm 4 4\n", 1, api.ErrRange},
	} {
		l, n, e := Parse(x.text)
		if n != x.n || e != x.e || (e == api.OK) != (len(l) > 0) {
			t.Errorf("%q %v %d %v", x.text, l, n, e)
		}
	}
}
