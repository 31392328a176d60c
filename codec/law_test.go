package codec

import (
	"slices"
	"strconv"
	"strings"
	"testing"

	"licit/api"
)

// written has the bytes of a value, and a function that reads a value of its type and says whether it is this one.
type written struct {
	bytes string
	read  func(r *Reader) bool
}

// someValues returns values of all types, among them the smallest and the largest ones.
func someValues() []written {
	var all []written
	for _, n := range []int{0, 1, 9, 10, 1024, api.MaxNumber - 1, api.MaxNumber} {
		s, _ := Number(n)
		all = append(all, written{s, func(r *Reader) bool { return r.Number(0, api.MaxNumber) == n }})
	}
	for _, x := range []string{"", "a", "a,b:", "1;", "\x00\xff", strings.Repeat("y", 300), strings.Repeat(",", api.MaxData)} {
		s, _ := Text(x)
		all = append(all, written{s, func(r *Reader) bool { return r.Text(api.MaxData) == x }})
	}
	for _, l := range [][]int{nil, {0}, {1, 20}, {api.MaxNumber, 0, 5}, slices.Repeat([]int{7}, api.MaxList)} {
		s, _ := Numbers(l)
		all = append(all, written{s, func(r *Reader) bool { return slices.Equal(r.Numbers(0, api.MaxNumber), l) }})
	}
	for _, l := range [][]string{nil, {""}, {"", "x"}, {"a,b:", "", "2;"}, slices.Repeat([]string{"z"}, api.MaxList)} {
		s, _ := Texts(l)
		all = append(all, written{s, func(r *Reader) bool { return slices.Equal(r.Texts(api.MaxData), l) }})
	}
	return all
}

// P2.3: what was written is read back, whatever follows it.
func TestReadBack(t *testing.T) {
	for i, x := range someValues() {
		for _, rest := range []string{"", "0", ";", ",", "5;", "1:x,", "\xff"} {
			r := NewReader(x.bytes + rest)
			if !x.read(r) || r.Err() != api.OK || r.Left() != len(rest) {
				t.Error(i, rest, r.Err(), r.Left())
			}
		}
	}
	var data string
	for _, x := range someValues() {
		data += x.bytes
	}
	r := NewReader(data)
	for i, x := range someValues() {
		if !x.read(r) {
			t.Error(i, r.Err())
		}
	}
	if r.Close() != api.OK {
		t.Error(r.Close())
	}
}

// P2.3: no proper beginning of the bytes of a value can be read.
func TestBeginnings(t *testing.T) {
	for i, x := range someValues() {
		// of long bytes not every end is tried
		step := 1 + len(x.bytes)/5000
		for end := 0; end < len(x.bytes); end += step {
			r := NewReader(x.bytes[:end])
			x.read(r)
			if r.Err() != api.ErrShort || r.Close() != api.ErrShort || r.Left() != 0 {
				t.Error(i, end, r.Err())
			}
		}
	}
}

// eachString passes all strings of at most most bytes of an alphabet to a function.
func eachString(alphabet string, most int, use func(string)) {
	use("")
	if most == 0 {
		return
	}
	for i := range len(alphabet) {
		eachString(alphabet, most-1, func(s string) { use(alphabet[i:i+1] + s) })
	}
}

// binaryNumbers returns the numbers of at most most digits, all of which are 0 or 1.
func binaryNumbers(most int) []int {
	numbers := []int{0, 1}
	for first := 1; len(numbers) < 1<<most; first *= 2 {
		for _, n := range numbers[first:] {
			numbers = append(numbers, 10*n, 10*n+1)
		}
	}
	return numbers
}

// expectedNumber says what the definition asks for: the length of the number with which data begins, or an error. Data consists of 0, 1, and what are no digits.
func expectedNumber(data string, numbers []int) (int, api.Errno) {
	e := api.ErrCorrupt
	for _, n := range numbers {
		bytes := strconv.Itoa(n) + ";"
		if strings.HasPrefix(data, bytes) {
			return len(bytes), api.OK
		}
		if strings.HasPrefix(bytes, data) {
			e = api.ErrShort
		}
	}
	return 0, e
}

// expectedText does the same for texts.
func expectedText(data string, lengths []int) (int, api.Errno) {
	e := api.ErrCorrupt
	for _, n := range lengths {
		head := strconv.Itoa(n) + ":"
		end := len(head) + n
		begins := strings.HasPrefix(data, head)
		if begins && len(data) > end && data[end] == ',' {
			return end + 1, api.OK
		}
		if strings.HasPrefix(head, data) || begins && len(data) <= end {
			e = api.ErrShort
		}
	}
	return 0, e
}

// P2.2 and P2.3: each short string leads to the right error, or to a number that has just the bytes that were read.
func TestAllShortNumbers(t *testing.T) {
	numbers := binaryNumbers(6)
	eachString("01;:x", 6, func(data string) {
		size, e := expectedNumber(data, numbers)
		r := NewReader(data)
		n := r.Number(0, api.MaxNumber)
		if r.Err() != e {
			t.Error(data, r.Err(), e)
		}
		if s, _ := Number(n); e == api.OK && (s != data[:size] || r.Left() != len(data)-size) {
			t.Error(data, n, r.Left())
		}
	})
}

// P2.2 and P2.3: each short string leads to the right error, or to a text that has just the bytes that were read.
func TestAllShortTexts(t *testing.T) {
	// longer numbers are more than MaxData
	lengths := binaryNumbers(5)
	eachString("01:,;", 7, func(data string) {
		size, e := expectedText(data, lengths)
		r := NewReader(data)
		x := r.Text(api.MaxData)
		if r.Err() != e {
			t.Error(data, r.Err(), e)
		}
		if s, _ := Text(x); e == api.OK && (s != data[:size] || r.Left() != len(data)-size) {
			t.Error(data, x, r.Left())
		}
	})
}

// P2.3: whatever is read as a list has just the bytes that were read.
func TestReadHasItsBytes(t *testing.T) {
	eachString("0123;:,", 6, func(data string) {
		r := NewReader(data)
		numbers := r.Numbers(0, api.MaxNumber)
		if s, _ := Numbers(numbers); r.Err() == api.OK && s != data[:len(data)-r.Left()] {
			t.Error(data, numbers)
		}
		r = NewReader(data)
		texts := r.Texts(api.MaxData)
		if s, _ := Texts(texts); r.Err() == api.OK && s != data[:len(data)-r.Left()] {
			t.Error(data, texts)
		}
	})
}
