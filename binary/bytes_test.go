package binary

import (
	"fmt"
	"slices"
	"strings"
	"testing"

	"licit/api"
)

// exampleBytes are the bytes of the program of the chapter.
const exampleBytes = "6:binary,1;1;3:\x00\x00\x0d,1;3:a/o,1:f,1;0;3;0;0;0;0;"

// P12.1: the bytes of binaries, and the binaries with some bytes.
func TestEncode(t *testing.T) {
	for i, x := range []struct {
		b    api.Binary
		want string
	}{
		{example(), exampleBytes},
		{program(), "6:binary,1;1;28:" + program().Image + ",3;3:a/o,4:main,1;0;13;9:lib/a!x/y,1:d,2;16;12;3:a/o,1:d,2;28;0;2;3;24;2;3:l/1,3:far,8;3:l/1,3:far,20;0;2;1:n,4:one\x00,1:m,0:,"},
		{shared(), "6:binary,2;0;16:" + shared().Image + ",3;1:o,1:d,2;0;8;1:o,1:f,1;8;2;1:p,1:d,2;12;4;2;0;4;0;2;1:d,12;1:f,8;0;"},
		{placed("0"), "6:binary,2;0;0:,1;1:o,2:s0,2;0;0;0;0;0;0;"},
	} {
		text, e := Encode(x.b)
		if e != api.OK || text != x.want {
			t.Errorf("%d %v %q", i, e, text)
		}
		if b, e := Decode(x.want); e != api.OK || !same(b, x.b) {
			t.Error(i, e, b)
		}
	}
}

// P12.1: what are the bytes of no valid binary.
func TestNoBinary(t *testing.T) {
	// bytes of a shared library with the parts that are given
	of := func(image, rest string) string {
		return fmt.Sprintf("6:binary,2;0;%d:%s,%s", len(image), image, rest)
	}
	d := "1:o,1:d,2;0;4;"
	zero := wordOf(0)
	for i, x := range []struct {
		text  string
		valid bool
	}{
		{of(zero, "1;"+d+"0;0;0;0;"), true}, {of(zero, "1;"+d+"1;0;0;0;0;"), true}, {of(zero, "1;"+d+"0;0;1;1:d,0;0;"), true}, {of(zero, "1;"+d+"0;0;0;1;1:n,0:,"), true}, {of("\x00\x00", "1;1:o,1:f,1;0;2;0;0;0;0;"), true},
		{"", false}, {"binary", false}, {"6:binary,", false}, {"6:object,0;0;", false}, {"7:archive,0;", false}, {"6:object,2;0;4:" + zero + ",1;" + d + "0;0;0;0;", false}, {"6:Binary,2;0;4:" + zero + ",1;" + d + "0;0;0;0;", false}, {"7:binary ,2;0;4:" + zero + ",1;" + d + "0;0;0;0;", false},
		// not written as codec writes it
		{"06:binary,2;0;4:" + zero + ",1;" + d + "0;0;0;0;", false}, {"6:binary,02;0;4:" + zero + ",1;" + d + "0;0;0;0;", false}, {of(zero, "01;"+d+"0;0;0;0;"), false}, {of(zero, "1;"+d+"00;0;0;0;"), false}, {of(zero, "1;"+d+"0;0;0;0; "), false}, {of(zero, "1;"+d+"0;0;0;-0;"), false}, {of(zero, "1; "+d+"0;0;0;0;"), false},
		// kinds and entries
		{"6:binary,0;0;4:" + zero + ",1;" + d + "0;0;0;0;", false}, {"6:binary,3;0;4:" + zero + ",1;" + d + "0;0;0;0;", false}, {"6:binary,1;0;4:" + zero + ",1;" + d + "0;0;0;0;", false}, {"6:binary,2;1;4:" + zero + ",1;" + d + "0;0;0;0;", false}, {"6:binary,2;2;4:" + zero + ",1;" + d + "0;0;0;0;", false}, {"6:binary,1;2;2:\x00\x00,1;1:o,1:f,1;0;2;0;0;0;0;", false}, {"6:binary,1;0;2:\x00\x00,1;1:o,1:f,1;0;2;0;0;0;0;", false}, {"6:binary,1;1;2:\x00\x00,1;1:o,1:f,1;0;2;0;0;0;0;", true},
		// places
		{of("", "0;0;0;0;0;"), false}, {of(zero, "1;1:O,1:d,2;0;4;0;0;0;0;"), false}, {of(zero, "1;1:o,1:D,2;0;4;0;0;0;0;"), false}, {of(zero, "1;1:o,1:d,3;0;4;0;0;0;0;"), false}, {of(zero, "1;1:o,1:d,0;0;4;0;0;0;0;"), false}, {of(zero, "1;1:o,1:d,2;1;3;0;0;0;0;"), false}, {of(zero, "1;1:o,1:d,2;0;3;0;0;0;0;"), false}, {of(zero, "1;1:o,1:d,2;0;8;0;0;0;0;"), false}, {of(zero, "2;"+d+d+"0;0;0;0;"), false}, {of(zero, "2;"+d+"0;0;0;0;"), false}, {of(zero, d+"0;0;0;0;"), false}, {of(zero+zero, "1;"+d+"0;0;0;0;"), false}, {of(zero[1:], "1;"+d+"0;0;0;0;"), false},
		{of(zero, "1;1:o,1:d,2;0;281474976710657;0;0;0;0;"), false}, {of(zero, "1;1:o,1:d,2;281474976710656;4;0;0;0;0;"), false}, {of("", "129;"+strings.Repeat("1:o,1:d,2;0;0;", 129)+"0;0;0;0;"), false},
		// fixups, imports, exports and notes
		{of("abcd", "1;"+d+"1;0;0;0;0;"), false}, {of(zero, "1;"+d+"1;1;0;0;0;"), false}, {of(zero, "1;"+d+"2;0;0;0;0;0;"), false}, {of(zero, "1;"+d+"1;4;0;0;0;"), false}, {of(zero, "1;"+d+"16385;"+strings.Repeat("0;", 16385)+"0;0;0;"), false},
		{of(zero, "1;"+d+"0;1;1:l,1:s,0;0;0;"), false}, {of(zero, "1;"+d+"0;0;1;1:d,4;0;"), false}, {of(zero, "1;"+d+"0;0;1;1:e,0;0;"), false}, {of(zero, "1;"+d+"0;0;2;1:d,0;1:d,0;0;"), false}, {of(zero, "1;"+d+"0;0;129;"+strings.Repeat("1:d,0;", 129)+"0;"), false},
		{of(zero, "1;"+d+"0;0;0;1;1:N,0:,"), false}, {of(zero, "1;"+d+"0;0;0;1;3:let,0:,"), false}, {of(zero, "1;"+d+"0;0;0;2;1:n,0:,1:n,0:,"), false}, {of(zero, "1;"+d+"0;0;0;2;1:n,0:,"), false}, {of(zero, "1;"+d+"0;0;0;1;1:n,"), false}, {of(zero, "1;"+d+"0;0;0;0;1:n,0:,"), false},
	} {
		b, e := Decode(x.text)
		want := map[bool]api.Errno{true: api.OK, false: api.ErrCorrupt}[x.valid]
		if e != want || !x.valid && !same(b, api.Binary{}) {
			t.Errorf("%d %q %v", i, x.text, e)
		}
	}
}

// P12.1: bytes that are cut off, or followed by others.
func TestCutOff(t *testing.T) {
	for _, b := range []api.Binary{example(), program(), shared()} {
		text, e := Encode(b)
		if e != api.OK {
			t.Fatal(e)
		}
		for n := range text {
			if b, e := Decode(text[:n]); e != api.ErrCorrupt || !same(b, api.Binary{}) {
				t.Error(n, e)
			}
		}
		for _, more := range []string{"x", "0;", "\x00", ",", "0:,", "\n", text} {
			if b, e := Decode(text + more); e != api.ErrCorrupt || !same(b, api.Binary{}) {
				t.Error(more, e)
			}
			if b, e := Decode(more + text); e != api.ErrCorrupt || !same(b, api.Binary{}) {
				t.Error(more, e)
			}
		}
	}
}

// P12.1: bytes that are changed: what can be decoded is another binary, with just these bytes.
func TestChanged(t *testing.T) {
	for _, b := range []api.Binary{example(), program(), shared()} {
		text, _ := Encode(b)
		decoded := 0
		for at := range text {
			for c := range 256 {
				changed := text[:at] + string([]byte{byte(c)}) + text[at+1:]
				d, e := Decode(changed)
				if changed == text {
					continue
				}
				if e != api.OK && (e != api.ErrCorrupt || !same(d, api.Binary{})) {
					t.Fatalf("%d %d %v", at, c, e)
				}
				if again, e2 := Encode(d); e == api.OK && (e2 != api.OK || again != changed || same(b, d)) {
					t.Fatalf("%d %d %q", at, c, again)
				}
				if e == api.OK {
					decoded++
				}
			}
		}
		if decoded < 200 {
			t.Error(decoded)
		}
	}
}

// P12.1: binaries of MaxData bytes, and of one more.
func TestLargeBinaries(t *testing.T) {
	full := func(size int) api.Binary {
		b := placed(append(slices.Repeat([]string{"8192"}, 7), "c"+fmt.Sprint(size))...)
		b.Places[0].Object = "a/long/name"
		return b
	}
	text, e := Encode(full(5000))
	if e != api.OK {
		t.Fatal(e)
	}
	size := 5000 + api.MaxData - len(text)
	b := full(size)
	text, e = Encode(b)
	if e != api.OK || len(text) != api.MaxData || size > api.MaxCode || size < 1000 {
		t.Fatal(e, len(text), size)
	}
	if back, e := Decode(text); e != api.OK || !same(b, back) {
		t.Error(e)
	}
	large := full(size + 1)
	if text, e := Encode(large); e != api.ErrTooLarge || text != "" || Check(large) != api.OK {
		t.Error(e, len(text))
	}
	// its bytes are those of a valid binary, but too many
	bytes := bytesOf(large)
	if d, e := Decode(bytes); len(bytes) != api.MaxData+1 || e != api.ErrCorrupt || !same(d, api.Binary{}) {
		t.Error(e, len(bytes))
	}
	// notes are bytes, too
	b = example()
	text, _ = Encode(b)
	room := api.MaxData - len(text) - len("1:n,") - len("12345:,")
	b, _ = Attach(b, api.Note{Name: "n", Text: strings.Repeat("t", room)})
	if text, e := Encode(b); e != api.OK || len(text) != api.MaxData {
		t.Error(e, len(text))
	}
	b.Notes[0].Text += "t"
	if text, e := Encode(b); e != api.ErrTooLarge || text != "" {
		t.Error(e)
	}
	b.Notes = notes(api.MaxFiles, strings.Repeat("t", api.MaxData))
	if text, e := Encode(b); e != api.ErrTooLarge || text != "" || Check(b) != api.OK {
		t.Error(e)
	}
	// ErrArg comes first
	b.Entry = 1
	if _, e := Encode(b); e != api.ErrArg {
		t.Error(e)
	}
	// as many fixups as there may be are too many bytes
	most := placed(slices.Repeat([]string{"8192"}, 8)...)
	most.Image = strings.Repeat("\x00", api.MaxData)
	for at := 0; at < api.MaxData; at += 4 {
		most.Fixups = append(most.Fixups, at)
	}
	checks(t, "fixups", most, true)
	most.Fixups = append(most.Fixups, api.MaxData)
	checks(t, "fixups", most, false)
}

// P12.1: as many places, exports and notes as there may be.
func TestMostOfAll(t *testing.T) {
	b := placed(slices.Repeat([]string{"0"}, api.MaxSections)...)
	for _, p := range b.Places {
		b.Exports = append(b.Exports, api.Exported{Symbol: p.Symbol, At: p.At})
	}
	slices.SortFunc(b.Exports, func(x, y api.Exported) int { return strings.Compare(x.Symbol, y.Symbol) })
	b.Notes = notes(api.MaxFiles, "x")
	b.Places[5].Object = strings.Repeat("n", 32) + strings.Repeat("/"+strings.Repeat("n", 31), 3) + "!" + strings.Repeat("n", 32) + strings.Repeat("/"+strings.Repeat("n", 31), 3)
	checks(t, "most", b, true)
	text, e := Encode(b)
	if back, e2 := Decode(text); e != api.OK || e2 != api.OK || !same(b, back) || len(b.Places[5].Object) != 2*api.MaxPath+1 {
		t.Error(e, e2, len(b.Places[5].Object))
	}
	// as many words as fit
	b = placed("8192", "8192", "8192", "8192", "8192")
	b.Image = strings.Repeat("\x00", len(b.Image))
	for n := range 2500 {
		b.Fixups = append(b.Fixups, n*4)
	}
	text, e = Encode(b)
	if back, e2 := Decode(text); e != api.OK || e2 != api.OK || !same(b, back) {
		t.Error(e, e2, len(text))
	}
	p := api.Binary{Kind: api.Program, Image: "\x00\x00\x00\x00" + strings.Repeat("\x00", 8192), Places: []api.Placed{{Object: "o", Symbol: "m", Kind: api.SectionCode, At: 0, Size: 2}, {Object: "o", Symbol: "d", Kind: api.SectionData, At: 4, Size: 8192}}}
	for at := 4; at < 8196; at += 4 {
		p.Imports = append(p.Imports, api.Import{Library: "l", Symbol: "s", At: at})
	}
	text, e = Encode(p)
	if back, e2 := Decode(text); e != api.OK || e2 != api.OK || !same(p, back) {
		t.Error(e, e2, len(text))
	}
}
