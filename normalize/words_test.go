package normalize

import (
	"slices"
	"strings"
	"testing"

	"licit/api"
	"licit/sample"
)

// P23.1: the words of texts, for each choice of classes.
func TestWordsOfTexts(t *testing.T) {
	for i, x := range []struct {
		data  string
		lines []string
	}{
		{"let x1 = 10;", []string{"0 let x1 = 10 ;"}},
		{"let x1 = 10;\nnote 1\nlet y = 2\nlet z = 3", []string{"0 let x1 = 10 ;", "3 let z = 3"}},
		{"note 1\nlet y = 2\nz", []string{"2 z"}},
		{"", nil}, {"\n", nil}, {"\n\n\n", nil}, {" ", nil}, {" \t \r\n\x00\x7f\x1f\n  ", nil},
		{"x", []string{"0 x"}}, {"x\n", []string{"0 x"}}, {"\nx", []string{"1 x"}}, {"x\ny", []string{"0 x", "1 y"}}, {"x\r\ny\r\n", []string{"0 x", "1 y"}},
		{"\n\n x \n\n\ty", []string{"2 x", "4 y"}},
		// words next to each other, and words that are names up to their last letter
		{"a+b", []string{"0 a + b"}}, {"a_b", []string{"0 a_b"}}, {"a-b_", []string{"0 a - b_"}}, {"((", []string{"0 ( ("}}, {"<<=", []string{"0 < < ="}}, {"a.b.c", []string{"0 a . b . c"}},
		{"_", []string{"0 _"}}, {"_1", []string{"0 _1"}}, {"A1z_", []string{"0 A1z_"}}, {"azAZ09_", []string{"0 azAZ09_"}},
		{"1a", []string{"0 1a"}}, {"0x1F", []string{"0 0x1F"}}, {"1_000", []string{"0 1_000"}}, {"007", []string{"0 007"}}, {"1.5e3", []string{"0 1 . 5e3"}}, {"-1", []string{"0 - 1"}},
		{"@`[{/:", []string{"0 @ ` [ { / :"}}, {"$n $0", []string{"0 $ n $ 0"}}, {"\"a b\"", []string{"0 \" a b \""}}, {"#x", []string{"0 # x"}},
		{"é", []string{"0 \xc3 \xa9"}}, {"x\u00a0y", []string{"0 x \xc2 \xa0 y"}}, {"\x80\xff", []string{"0 \x80 \xff"}}, {"aéb", []string{"0 a \xc3 \xa9 b"}}, {"٣", []string{"0 \xd9 \xa3"}},
		{"a\x00b\x7fc\x1fd\te\vf\fg\rh", []string{"0 a b c d e f g h"}},
		{strings.Repeat("\n", api.MaxLines-1) + "x", []string{"1023 x"}},
	} {
		got, e := Words("a/x", x.data, false, false)
		if want := sample.Text("a/x", x.lines...); e != api.OK || !equal(got, want) {
			t.Error(i, got, e)
		}
	}
}

// P23.1: lines that are notes, and lines that are none.
func TestNotes(t *testing.T) {
	for i, x := range []struct {
		data  string
		lines []string
	}{
		{"note 0", nil}, {"note 0\nx", []string{"1 x"}}, {"x\nnote 0\ny", []string{"0 x", "2 y"}},
		{"note 2\nx\ny\nz", []string{"3 z"}}, {"note 1\n\nz", []string{"2 z"}},
		// more lines than are left
		{"note 3\nx\ny\nz", nil}, {"note 4\nx\ny\nz", nil}, {"note 9999\nx", nil}, {"x\nnote 1", []string{"0 x"}}, {"x\nnote 1\n", []string{"0 x"}}, {"note 9999\n" + strings.Repeat("x\n", api.MaxLines-2), nil},
		{"note 1023\n" + strings.Repeat("x\n", api.MaxLines-2) + "y", nil}, {"note 1022\n" + strings.Repeat("x\n", api.MaxLines-2) + "y", []string{"1023 y"}},
		{"note 10\n" + strings.Repeat("x\n", 10) + "y", []string{"11 y"}}, {"note 100\n" + strings.Repeat("x\n", 100) + "y", []string{"101 y"}},
		// what stands in a note is none
		{"note 1\nnote 1\nx\ny", []string{"2 x", "3 y"}}, {"note 2\nnote 5\nx\ny", []string{"3 y"}}, {"note 2\nx\nnote 1\ny", []string{"3 y"}},
		// one note behind the other
		{"note 0\nnote 1\nx\ny", []string{"3 y"}}, {"note 1\nx\nnote 1\ny\nz", []string{"4 z"}},
		// blanks do not matter
		{" \tnote\x00 \x7f1\r\nx\ny", []string{"2 y"}}, {"note\t1\nx\ny", []string{"2 y"}}, {"note  1 \nx\ny", []string{"2 y"}},
		// no number
		{"note 01\nx", []string{"0 note 01", "1 x"}}, {"note 00\nx", []string{"0 note 00", "1 x"}}, {"note 0000\nx", []string{"0 note 0000", "1 x"}}, {"note 10000\nx", []string{"0 note 10000", "1 x"}}, {"note 00001\nx", []string{"0 note 00001", "1 x"}},
		{"note\nx", []string{"0 note", "1 x"}}, {"note x\nx", []string{"0 note x", "1 x"}}, {"note 1a\nx", []string{"0 note 1a", "1 x"}}, {"note 1_\nx", []string{"0 note 1_", "1 x"}}, {"note 0x1\nx", []string{"0 note 0x1", "1 x"}}, {"note _1\nx", []string{"0 note _1", "1 x"}}, {"note +\nx", []string{"0 note +", "1 x"}}, {"note 99999999999999999999999\nx", []string{"0 note 99999999999999999999999", "1 x"}},
		// not two words
		{"note -1\nx", []string{"0 note - 1", "1 x"}}, {"note +1\nx", []string{"0 note + 1", "1 x"}}, {"note 1 1\nx", []string{"0 note 1 1", "1 x"}}, {"note 1;\nx", []string{"0 note 1 ;", "1 x"}}, {"note 1 note\nx", []string{"0 note 1 note", "1 x"}}, {"x note 1\nx", []string{"0 x note 1", "1 x"}}, {"note1\nx", []string{"0 note1", "1 x"}}, {"note\n1\nx", []string{"0 note", "1 1", "2 x"}}, {"note ٣\nx", []string{"0 note \xd9 \xa3", "1 x"}},
		// another word
		{"Note 1\nx", []string{"0 Note 1", "1 x"}}, {"NOTE 1\nx", []string{"0 NOTE 1", "1 x"}}, {"notes 1\nx", []string{"0 notes 1", "1 x"}}, {"not 1\nx", []string{"0 not 1", "1 x"}}, {"note_ 1\nx", []string{"0 note_ 1", "1 x"}}, {"1 note\nx", []string{"0 1 note", "1 x"}}, {"1 1\nx", []string{"0 1 1", "1 x"}}, {"note note\nx", []string{"0 note note", "1 x"}},
	} {
		want := sample.Text("a", x.lines...)
		for _, names := range []bool{false, true} {
			for _, numbers := range []bool{false, true} {
				got, e := Words("a", x.data, names, numbers)
				if e != api.OK || len(got.Words) != len(want.Words) || !names && !numbers && !equal(got, want) {
					t.Errorf("%d %q %v %v", i, x.data, got, e)
				}
			}
		}
	}
}

// P23.1: what names and numbers are replaced by.
func TestClasses(t *testing.T) {
	data := "let x1 = 10;\nnote 1\nlet y = 2\n _ _1 1a 1_ 007 Z $n $0 é note 5 5"
	plain := []string{"0 let x1 = 10 ;", "3 _ _1 1a 1_ 007 Z $ n $ 0 \xc3 \xa9 note 5 5"}
	for _, x := range []struct {
		names, numbers bool
		lines          []string
	}{
		{false, false, plain},
		{true, false, []string{"0 $n $n = 10 ;", "3 $n $n 1a 1_ 007 $n $ $n $ 0 \xc3 \xa9 $n 5 5"}},
		{false, true, []string{"0 let x1 = $0 ;", "3 _ _1 $0 $0 $0 Z $ n $ $0 \xc3 \xa9 note $0 $0"}},
		{true, true, []string{"0 $n $n = $0 ;", "3 $n $n $0 $0 $0 $n $ $n $ $0 \xc3 \xa9 $n $0 $0"}},
	} {
		if got, e := Words("b", data, x.names, x.numbers); e != api.OK || !equal(got, sample.Text("b", x.lines...)) {
			t.Error(x.names, x.numbers, got, e)
		}
	}
}

// P23.1: each byte alone, between letters and behind a digit, for each choice of classes.
func TestBytes(t *testing.T) {
	const letters = "abcdefghijklmnopqrstuvwxyzABCDEFGHIJKLMNOPQRSTUVWXYZ_"
	const digits = "0123456789"
	for c := range 256 {
		b := string([]byte{byte(c)})
		// the words of the byte, of it between two letters, and of it behind a digit: plain, and with classes
		alone, between, behind := [2]string{" " + b, " " + b}, [2]string{" a " + b + " b", " $n " + b + " $n"}, [2]string{" 7 " + b, " $0 " + b}
		switch {
		case c == '\n':
			continue
		case c <= 32 || c == 127:
			alone, between, behind = [2]string{}, [2]string{" a b", " $n $n"}, [2]string{" 7", " $0"}
		case strings.Contains(letters, b):
			alone, between, behind = [2]string{" " + b, " $n"}, [2]string{" a" + b + "b", " $n"}, [2]string{" 7" + b, " $0"}
		case strings.Contains(digits, b):
			alone, between, behind = [2]string{" " + b, " $0"}, [2]string{" a" + b + "b", " $n"}, [2]string{" 7" + b, " $0"}
		}
		for i, classes := range []bool{false, true} {
			for data, words := range map[string]string{b: alone[i], "a" + b + "b": between[i], "7" + b: behind[i]} {
				if got, e := Words("a", data, classes, classes); e != api.OK || !equal(got, sample.Text("a", "0"+words)) {
					t.Errorf("%q %v %v", data, got, e)
				}
			}
		}
	}
}

// P23.1: the path is kept, and is none of what is looked at.
func TestPaths(t *testing.T) {
	for _, path := range []string{"a", "a/b", "note", "0", sample.LongPath(), "a/b/c/d/e/f/g/h"} {
		if got, e := Words(path, "x", false, false); e != api.OK || !equal(got, sample.Text(path, "0 x")) {
			t.Error(path, got, e)
		}
	}
}

// P23.1: data and words at the limits, and beyond.
func TestWordsLimits(t *testing.T) {
	for i, x := range []struct {
		path, data string
		words      int
		e          api.Errno
	}{
		{"a", strings.Repeat(" ", api.MaxData), 0, api.OK},
		{"a", strings.Repeat(" ", api.MaxData+1), 0, api.ErrTooLarge},
		{"a", strings.Repeat("x", api.MaxData), 1, api.OK},
		{"a", strings.Repeat("x", api.MaxData+1), 0, api.ErrTooLarge},
		{"a", strings.Repeat("\n", api.MaxLines-1), 0, api.OK},
		{"a", strings.Repeat("\n", api.MaxLines), 0, api.ErrTooLarge},
		{"a", strings.Repeat("x\n", api.MaxLines-1) + "x", api.MaxLines, api.OK},
		{"a", strings.Repeat("x\n", api.MaxLines), 0, api.ErrTooLarge},
		// lines in a note are lines
		{"a", "note 9999" + strings.Repeat("\n", api.MaxLines), 0, api.ErrTooLarge},
		{"a", strings.Repeat("(", api.MaxWords), api.MaxWords, api.OK},
		{"a", strings.Repeat("(", api.MaxWords+1), 0, api.ErrTooLarge},
		{"a", strings.Repeat("(", api.MaxData), 0, api.ErrTooLarge},
		{"a", strings.Repeat("a ", api.MaxWords) + "\n\n", api.MaxWords, api.OK},
		{"a", strings.Repeat("a ", api.MaxWords) + "\na", 0, api.ErrTooLarge},
		{"a", strings.Repeat("x y z u v w x y\n", api.MaxLines-1) + "x y z u v w x y", api.MaxWords, api.OK},
		{"a", strings.Repeat("x y z u v w x y\n", api.MaxLines-1) + "x y z u v w x y z", 0, api.ErrTooLarge},
		// words in a note do not count
		{"a", "note 1\n" + strings.Repeat("(", api.MaxWords+1), 0, api.OK},
		{"a", "note 1\n(((\n" + strings.Repeat("(", api.MaxWords), api.MaxWords, api.OK},
		{"a", "note 1\n(((\n" + strings.Repeat("(", api.MaxWords+1), 0, api.ErrTooLarge},
		// the path comes first
		{"A", strings.Repeat(" ", api.MaxData+1), 0, api.ErrName},
		{"", strings.Repeat("(", api.MaxWords+1), 0, api.ErrName},
		{sample.LongPath() + "q", strings.Repeat("\n", api.MaxLines), 0, api.ErrName},
	} {
		for _, classes := range []bool{false, true} {
			got, e := Words(x.path, x.data, classes, classes)
			if e != x.e || len(got.Words) != x.words || e == api.OK && got.Path != x.path || e != api.OK && !isZero(got) {
				t.Error(i, len(got.Words), e)
			}
		}
	}
}

// P23.1: a path that is none.
func TestWordsErrors(t *testing.T) {
	for _, path := range sample.BadPaths() {
		if got, e := Words(path, "x", false, false); e != api.ErrName || !isZero(got) {
			t.Error(path, got, e)
		}
	}
}

// P23.1: the words of two calls share no memory.
func TestWordsMemory(t *testing.T) {
	a, _ := Words("a", "x y\nz", false, false)
	b, _ := Words("a", "x y\nz", false, false)
	clear(a.Words)
	if want := sample.Text("a", "0 x y", "1 z"); !slices.Equal(b.Words, want.Words) {
		t.Error(b)
	}
}
