package record

import (
	"slices"
	"strconv"
	"strings"
	"testing"

	"licit/api"
	"licit/digest"
)

// hexA and hexB are texts of digests.
const (
	hexA = "00112233445566778899aabbccddeeff00112233445566778899aabbccddeeff"
	hexB = "ffeeddccbbaa99887766554433221100ffeeddccbbaa99887766554433221100"
)

// shown is the record with the text shownText.
func shown() api.Record {
	a, _ := digest.Parse(hexA)
	b, _ := digest.Parse(hexB)
	return api.Record{
		{Package: 0, Line: 0, Kind: 1, Reads: []api.Touch{{Path: "a/x", Digest: a}}, Wrote: api.Touch{Path: "a/o", Digest: b}},
		{Package: 15, Line: 1023, Kind: 8, Reads: []api.Touch{{Path: "a/o", Digest: b}, {Path: "a/x", Digest: a}}, Wrote: api.Touch{Path: "b", Digest: a}},
	}
}

const shownText = "step 0 0 1\nread a/x " + hexA + "\nwrite a/o " + hexB + "\n" +
	"step 15 1023 8\nread a/o " + hexB + "\nread a/x " + hexA + "\nwrite b " + hexA + "\n"

// P17.6: texts of records, which lead back.
func TestPrint(t *testing.T) {
	if s, e := Print(shown()); e != api.OK || s != shownText {
		t.Errorf("%q %v", s, e)
	}
	for _, r := range []api.Record{nil, {}} {
		if s, e := Print(r); e != api.OK || s != "" {
			t.Errorf("%q %v", s, e)
		}
	}
	for i, r := range validRecords() {
		s, e := Print(r)
		if e != api.OK {
			t.Error(i, e)
		}
		if back, n, e := Parse(s); e != api.OK || n != -1 || !isEqual(back, r) {
			t.Error(i, back, n, e)
		}
	}
	for i, r := range invalidRecords() {
		if s, e := Print(r); e != api.ErrArg || s != "" {
			t.Error(i, s, e)
		}
	}
}

// P17.6: records of texts.
func TestParse(t *testing.T) {
	if r, n, e := Parse(shownText); e != api.OK || n != -1 || !isEqual(r, shown()) {
		t.Error(r, n, e)
	}
	if r, n, e := Parse(""); e != api.OK || n != -1 || r != nil {
		t.Error(r, n, e)
	}
	r, _, _ := Parse(shownText)
	r[0].Reads = append(r[0].Reads, api.Touch{})
	r[1].Reads[0].Path = "other"
	if r, _, _ := Parse(shownText); !isEqual(r, shown()) {
		t.Error(r)
	}
}

// P17.6: lines that are not as described, at each place where a line of their kind may stand.
func TestSyntax(t *testing.T) {
	read, write := "read a/x "+hexA, "write a/o "+hexB
	steps := []string{
		"step", "step ", "step 0", "step 0 0", "step 0 0 ", "step 0 0 1 ", "step 0 0 1 0", "step 0 0 1 0 0 0", " step 0 0 1", "step  0 0 1", "step 0  0 1", "step 0 0  1",
		"step 00 0 1", "step 0 00 1", "step 0 0 01", "step 0 0 0001", "step +0 0 1", "step -0 0 1", "step 0 +0 1", "step 0 -1 1", "step 0 0 +1", "step 0 0 -1",
		"step 10000 0 1", "step 0 10000 1", "step 0 0 10000", "step 0 0 99999999999999999999", "step 0 01023 1", "step a 0 1", "step 0 0x1 1", "step 0 0 1.", "step 0 1_0 1", "step 0,0,1",
		"step\t0 0 1", "step 0 0 1\r", "step 0 0 1\t", "Step 0 0 1", "steps 0 0 1", "STEP 0 0 1", "", " ", "#", read, write, "end",
	}
	touches := []string{
		"", " ", "a/x " + hexA, " a/x", " a/x ", "  " + hexA, " " + hexA, "  a/x " + hexA, " a/x  " + hexA, " a/x " + hexA + " ", " a/x " + hexA + " 0", " a/x " + hexA + " 0 0 0",
		" a/x " + strings.ToUpper(hexA), " a/x " + hexA[:63] + "F", " a/x " + hexA[:63], " a/x " + hexA + "0", " a/x " + hexA[:63] + "g", " a/x 0x" + hexA[2:], " a/x -" + hexA[1:], " a/x " + hexA[:62],
		" a/x " + hexA + "\r", " a/x " + hexA + "\t", "\ta/x " + hexA, " a x " + hexA, " " + hexA + " a/x", " a/x\t" + hexA, " a/x " + hexA[:32] + " " + hexA[32:],
	}
	type place struct {
		lines []string // in front of the wrong one
		wrong []string
	}
	first := []string{"step 0 0 1", read, write}
	begin, middle := place{nil, steps}, place{first, steps}
	behindStep := place{[]string{"step 0 0 1"}, []string{"step 0 0 1", write, "", "Read a/x " + hexA, "reads a/x " + hexA}}
	behindRead := place{[]string{"step 0 0 1", read}, []string{"step 0 1 1", "", "Write a/o " + hexB, "writes a/o " + hexB}}
	for _, x := range touches {
		behindStep.wrong = append(behindStep.wrong, "read"+x)
		behindRead.wrong = append(behindRead.wrong, "read"+x, "write"+x)
	}
	for i, p := range []place{begin, middle, behindStep, behindRead} {
		for _, wrong := range p.wrong {
			for _, more := range []string{"\n", "", "\n" + write + "\n", "\nstep 99 0 1\n"} {
				text := strings.Join(append(p.lines[:len(p.lines):len(p.lines)], wrong), "\n") + more
				if wrong == "" && more == "" {
					continue
				}
				if r, n, e := Parse(text); e != api.ErrSyntax || n != len(p.lines) || r != nil {
					t.Errorf("%d %q %v %d %v", i, text, r, n, e)
				}
			}
		}
	}
}

// P17.6: numbers of 1 to 4 digits have their form, whatever they are, and words may have any bytes but blanks.
func TestSyntaxOfFaults(t *testing.T) {
	text := func(numbers, path string) string {
		return "step " + numbers + "\nread " + path + " " + hexA + "\nwrite a/o " + hexB + "\n"
	}
	for _, x := range []struct {
		text string
		e    api.Errno
	}{
		{text("0 0 1", "a/x"), api.OK},
		{text("9 99 8", "a/x"), api.OK},
		{text("15 999 8", "a/x"), api.OK},
		{text("0 1023 1", "a/x"), api.OK},
		{text("16 0 1", "a/x"), api.ErrRange},
		{text("9999 0 1", "a/x"), api.ErrRange},
		{text("0 1024 1", "a/x"), api.ErrRange},
		{text("0 9999 1", "a/x"), api.ErrRange},
		{text("0 0 0", "a/x"), api.ErrRange},
		{text("0 0 9", "a/x"), api.ErrRange},
		{text("0 0 9999", "a/x"), api.ErrRange},
		{text("0 0 1", "A"), api.ErrName},
		{text("0 0 1", "/"), api.ErrName},
		{text("0 0 1", "a/x\r"), api.ErrName},
		{text("0 0 1", "a\tx"), api.ErrName},
		{text("0 0 1", "\x00\xff"), api.ErrName},
		{text("0 0 1", "read"), api.OK},
		{text("0 0 1", hexA), api.ErrName},
		{text("0 0 1", strings.Repeat("a", 5000)), api.ErrName},
		{text("0 0 1", "a/o"), api.ErrTwice},
		{text("1 0 1", "a/x") + text("0 0 1", "a/x"), api.ErrOrder},
		{text("0 0 1", "a/x") + text("0 0 1", "a/x"), api.ErrOrder},
		{text("0 0 1", "a/x") + text("0 1 1", "a/x"), api.ErrTwice},
		{text("0 0 1", "a/x") + "step 0 1 1\nread a/x " + hexB + "\nwrite a/p " + hexA + "\n", api.ErrMismatch},
	} {
		r, n, e := Parse(x.text)
		if n != -1 || e != x.e || (e == api.OK) != (r != nil) {
			t.Errorf("%q %v %d %v", x.text, r, n, e)
		}
	}
}

// P17.6: texts that end within a step, or within a line.
func TestShort(t *testing.T) {
	lines := strings.SplitAfter(shownText, "\n")
	for n := range lines {
		whole := strings.Join(lines[:n], "")
		e, number := api.ErrShort, n
		if n == 0 || n == 3 || n == 7 {
			e, number = api.OK, -1
		}
		if r, m, f := Parse(whole); f != e || m != number || len(r) != n/3 && f == api.OK || f != api.OK && r != nil {
			t.Error(n, r, m, f)
		}
		for size := 1; size < len(lines[n]); size++ {
			if r, m, f := Parse(whole + lines[n][:size]); f != api.ErrSyntax || m != n || r != nil {
				t.Error(n, size, r, m, f)
			}
		}
	}
	// the form comes before the end, and the end before the faults
	for text, want := range map[string]struct {
		n int
		e api.Errno
	}{
		"step 99 0 1\n":                                                        {1, api.ErrShort},
		"step 99 0 1\nread A " + hexA + "\n":                                   {2, api.ErrShort},
		"step 99 0 1\nstep 0 0 1\n":                                            {1, api.ErrSyntax},
		"step 99 0 1\nread A " + hexA + "\n\n":                                 {2, api.ErrSyntax},
		"step 99 0 1\nread A " + hexA + "\nwrite A " + hexA + "\n\n":           {3, api.ErrSyntax},
		"step 99 0 1\nread A " + hexA + "\nwrite A " + hexA + "\nstep 0 0 1\n": {4, api.ErrShort},
		"step 99 0 1\nread A " + hexA + "\nwrite A " + hexA + "\nstep 0 0 1":   {3, api.ErrSyntax},
	} {
		if r, n, e := Parse(text); n != want.n || e != want.e || r != nil {
			t.Errorf("%q %v %d %v", text, r, n, e)
		}
	}
}

// P17.6: two lines of a text that are exchanged, or one of them that is written twice or left out: another record, or none.
func TestLinesInAnotherOrder(t *testing.T) {
	lines := strings.SplitAfter(shownText, "\n")
	lines = lines[:len(lines)-1]
	check := func(lines []string) {
		text := strings.Join(lines, "")
		r, n, e := Parse(text)
		want, m, f := plainParse(text)
		if n != m || e != f || !isEqual(r, want) || isEqual(r, shown()) {
			t.Errorf("%q %v %d %v", text, r, n, e)
		}
	}
	for i := range lines {
		for j := range i {
			other := slices.Clone(lines)
			other[i], other[j] = lines[j], lines[i]
			if lines[i] != lines[j] {
				check(other)
			}
		}
		check(slices.Insert(slices.Clone(lines), i, lines[i]))
		check(slices.Delete(slices.Clone(lines), i, i+1))
	}
}

// P17.6: too many steps and reads are faults of the record, which come behind the form of all lines.
func TestParseTooMany(t *testing.T) {
	line := func(i int) string {
		return "step 0 " + strconv.Itoa(i%1000) + " 1\nread a/x " + hexA + "\nwrite a/o" + strconv.Itoa(i) + " " + hexB + "\n"
	}
	var text strings.Builder
	for i := range api.MaxList + 1 {
		text.WriteString(line(i))
	}
	if r, n, e := Parse(text.String()); e != api.ErrTooLarge || n != -1 || r != nil {
		t.Error(len(r), n, e)
	}
	if r, n, e := Parse(text.String() + "\n"); e != api.ErrSyntax || n != 3*(api.MaxList+1) || r != nil {
		t.Error(len(r), n, e)
	}
	for reads, want := range map[int]api.Errno{api.MaxList: api.OK, api.MaxList + 1: api.ErrArg} {
		var text strings.Builder
		text.WriteString("step 0 0 1\n")
		for i := range reads {
			text.WriteString("read a/x" + strconv.Itoa(i) + " " + hexA + "\n")
		}
		text.WriteString("write a/o " + hexB + "\n")
		if r, n, e := Parse(text.String()); e != want || n != -1 || (e == api.OK) != (len(r) == 1) {
			t.Error(reads, n, e)
		}
	}
}
