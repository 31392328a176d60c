package record

import (
	"strconv"
	"strings"

	"licit/api"
	"licit/decimal"
	"licit/digest"
)

// stepWord and the others begin the lines of a text.
const (
	stepWord  = "step"
	readWord  = "read"
	writeWord = "write"
)

// blank stands between the words of a line.
const blank = " "

// maxWords is how many words a line has at most.
const maxWords = 4

// maxDigits is how many digits a number in a text has at most.
const maxDigits = 4

// Print returns the text of a record: ErrArg, if it is not valid.
func Print(r api.Record) (string, api.Errno) {
	if Check(r) != api.OK {
		return "", api.ErrArg
	}
	var text strings.Builder
	write := func(words ...string) { text.WriteString(strings.Join(words, blank) + "\n") }
	touch := func(word string, f api.Touch) {
		// a digest of a valid record has a text
		hex, _ := digest.Hex(f.Digest)
		write(word, f.Path, hex)
	}
	for _, s := range r {
		write(stepWord, strconv.Itoa(s.Package), strconv.Itoa(s.Line), strconv.Itoa(s.Kind))
		for _, f := range s.Reads {
			touch(readWord, f)
		}
		touch(writeWord, s.Wrote)
	}
	return text.String(), api.OK
}

// Parse returns the record of a text, and -1: ErrSyntax with the number of the first line that does not have its form; ErrShort with the number of lines, if the text ends within a step; the fault of the record with -1.
func Parse(s string) (api.Record, int, api.Errno) {
	var r reader
	n := 0
	for ; s != ""; n++ {
		line, rest, ends := strings.Cut(s, "\n")
		if !ends || !r.take(line) {
			return nil, n, api.ErrSyntax
		}
		s = rest
	}
	if r.within {
		return nil, n, api.ErrShort
	}
	if e := Check(r.record); e != api.OK {
		return nil, -1, e
	}
	return r.record, -1, api.OK
}

// reader reads the lines of a text.
type reader struct {
	record api.Record
	step   api.Done // what was read of a step
	within bool     // whether the last line was not the end of a step
}

// take reads a line, and says whether it may stand behind the lines before.
func (r *reader) take(line string) bool {
	// one word more is enough to see that there are too many
	words := strings.SplitN(line, blank, maxWords+1)
	switch word := words[0]; {
	case word == stepWord && !r.within:
		return r.begin(words[1:])
	case word == readWord && r.within:
		f, isTouch := parseTouch(words[1:])
		r.step.Reads = append(r.step.Reads, f)
		return isTouch
	case word == writeWord && len(r.step.Reads) > 0:
		return r.end(words[1:])
	}
	return false
}

// begin reads the numbers of a step.
func (r *reader) begin(words []string) bool {
	if len(words) != 3 {
		return false
	}
	var numbers [3]int
	for i := range numbers {
		n, isNumber := decimal.Parse(words[i], maxDigits)
		if !isNumber {
			return false
		}
		numbers[i] = n
	}
	r.step = api.Done{Package: numbers[0], Line: numbers[1], Kind: numbers[2]}
	r.within = true
	return true
}

// end reads what a step has written, behind which there is no step until the next one begins.
func (r *reader) end(words []string) bool {
	f, isTouch := parseTouch(words)
	r.step.Wrote = f
	r.record = append(r.record, r.step)
	r.step, r.within = api.Done{}, false
	return isTouch
}

// parseTouch returns a file with its digest, and whether some words are those of one.
func parseTouch(words []string) (api.Touch, bool) {
	if len(words) != 2 || words[0] == "" {
		return api.Touch{}, false
	}
	d, e := digest.Parse(words[1])
	return api.Touch{Path: words[0], Digest: d}, e == api.OK
}
