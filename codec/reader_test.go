package codec

import (
	"slices"
	"strings"
	"testing"

	"licit/api"
)

// P2.2: numbers are read within their bounds; what follows them does not matter.
func TestReadNumber(t *testing.T) {
	const all = api.MaxNumber
	for _, x := range []struct {
		data      string
		low, high int
		n         int
		e         api.Errno
		left      int
	}{
		{"0;", 0, all, 0, api.OK, 0}, {"5;x", 0, all, 5, api.OK, 1}, {"10;20;", 0, all, 10, api.OK, 3}, {"7;;", 7, 7, 7, api.OK, 1},
		{"281474976710656;", 0, all, all, api.OK, 0}, {"281474976710655;0", 0, all, all - 1, api.OK, 1}, {"5;", -1 << 63, 1<<63 - 1, 5, api.OK, 0},
		{"1;x", 2, 9, 0, api.ErrRange, 0}, {"2;", 2, 9, 2, api.OK, 0}, {"9;", 2, 9, 9, api.OK, 0}, {"10;", 2, 9, 0, api.ErrRange, 0},
		{"5;", 9, 2, 0, api.ErrRange, 0}, {"0;", 0, -1, 0, api.ErrRange, 0}, {"281474976710656;", 0, all - 1, 0, api.ErrRange, 0},
		{"", 0, all, 0, api.ErrShort, 0}, {"0", 0, all, 0, api.ErrShort, 0}, {"12", 0, all, 0, api.ErrShort, 0}, {"12", 0, 1, 0, api.ErrShort, 0},
		{"281474976710656", 0, all, 0, api.ErrShort, 0}, {"28147497671065", 0, all, 0, api.ErrShort, 0},
		{"281474976710657", 0, all, 0, api.ErrCorrupt, 0}, {"281474976710657;", 0, all, 0, api.ErrCorrupt, 0}, {"999999999999999", 0, all, 0, api.ErrCorrupt, 0},
		{"2814749767106560", 0, all, 0, api.ErrCorrupt, 0}, {"18446744073709551617;", 0, all, 0, api.ErrCorrupt, 0}, {strings.Repeat("9", 1000), 0, all, 0, api.ErrCorrupt, 0},
		{"01;", 0, all, 0, api.ErrCorrupt, 0}, {"00", 0, all, 0, api.ErrCorrupt, 0}, {"00;", 0, all, 0, api.ErrCorrupt, 0}, {";", 0, all, 0, api.ErrCorrupt, 0},
		{"x", 0, all, 0, api.ErrCorrupt, 0}, {"1x;", 0, all, 0, api.ErrCorrupt, 0}, {"-1;", -9, all, 0, api.ErrCorrupt, 0}, {"+1;", 0, all, 0, api.ErrCorrupt, 0},
		{" 1;", 0, all, 0, api.ErrCorrupt, 0}, {"1:", 0, all, 0, api.ErrCorrupt, 0}, {"1/", 0, all, 0, api.ErrCorrupt, 0}, {"1_0;", 0, all, 0, api.ErrCorrupt, 0}, {"\xb1;", 0, all, 0, api.ErrCorrupt, 0},
	} {
		r := NewReader(x.data)
		if r.Left() != len(x.data) || r.Err() != api.OK {
			t.Error(x.data, "has been read")
		}
		if n := r.Number(x.low, x.high); n != x.n || r.Err() != x.e || r.Left() != x.left {
			t.Error(x.data, x.low, x.high, n, r.Err(), r.Left())
		}
	}
}

// P2.2: texts are read up to a length; a text that is there as a whole may be too large, one that is not is short or corrupt.
func TestReadText(t *testing.T) {
	most := strings.Repeat("x", api.MaxData)
	for _, x := range []struct {
		data string
		most int
		s    string
		e    api.Errno
		left int
	}{
		{"0:,", 0, "", api.OK, 0}, {"2:ab,1;", 3, "ab", api.OK, 2}, {"3:abc,", 3, "abc", api.OK, 0}, {"2:,,,,", 9, ",,", api.OK, 1}, {"10:0123456789,", 10, "0123456789", api.OK, 0},
		{"65536:" + most + ",,", api.MaxData, most, api.OK, 1}, {"1:a,", 1<<63 - 1, "a", api.OK, 0}, {"3:\x00\xff:,", 3, "\x00\xff:", api.OK, 0},
		{"4:abcd,", 3, "", api.ErrTooLarge, 0}, {"65536:" + most + ",", 9, "", api.ErrTooLarge, 0}, {"1:a,", 0, "", api.ErrTooLarge, 0}, {"0:,", -1, "", api.ErrTooLarge, 0}, {"0:,", -1 << 63, "", api.ErrTooLarge, 0},
		{"", 9, "", api.ErrShort, 0}, {"0", 9, "", api.ErrShort, 0}, {"0:", 9, "", api.ErrShort, 0}, {"2:", 9, "", api.ErrShort, 0}, {"2:a", 9, "", api.ErrShort, 0}, {"2:ab", 9, "", api.ErrShort, 0},
		{"4:abcd", 3, "", api.ErrShort, 0}, {"65536", 9, "", api.ErrShort, 0}, {"65536:", 9, "", api.ErrShort, 0}, {"65536:" + most, 9, "", api.ErrShort, 0}, {"6553", 9, "", api.ErrShort, 0},
		{"2:abc", 9, "", api.ErrCorrupt, 0}, {"4:abcde", 3, "", api.ErrCorrupt, 0}, {"0:x", 9, "", api.ErrCorrupt, 0}, {"65537", 9, "", api.ErrCorrupt, 0}, {"65537:" + most + "x,", api.MaxData + 1, "", api.ErrCorrupt, 0},
		{"65536:" + most + ";", api.MaxData, "", api.ErrCorrupt, 0}, {"01:a,", 9, "", api.ErrCorrupt, 0}, {"00:,", 9, "", api.ErrCorrupt, 0}, {":,", 9, "", api.ErrCorrupt, 0}, {"1;", 9, "", api.ErrCorrupt, 0},
		{"x", 9, "", api.ErrCorrupt, 0}, {",", 9, "", api.ErrCorrupt, 0}, {"-1:,", 9, "", api.ErrCorrupt, 0}, {"99999999999999999999:", 9, "", api.ErrCorrupt, 0},
	} {
		r := NewReader(x.data)
		if s := r.Text(x.most); s != x.s || r.Err() != x.e || r.Left() != x.left {
			t.Errorf("%.20q %d: %.20q %d %d", x.data, x.most, s, r.Err(), r.Left())
		}
	}
}

// P2.2: lists are read element by element; with an error there is no list.
func TestReadLists(t *testing.T) {
	for _, x := range []struct {
		data    string
		numbers []int
		e       api.Errno
		left    int
	}{
		{"0;", nil, api.OK, 0}, {"0;5", nil, api.OK, 1}, {"2;1;20;", []int{1, 20}, api.OK, 0}, {"1;1;20;", []int{1}, api.OK, 3}, {"1024;" + strings.Repeat("1;", 1025), slices.Repeat([]int{1}, 1024), api.OK, 2},
		{"1025;" + strings.Repeat("1;", 1025), nil, api.ErrRange, 0}, {"1025;", nil, api.ErrRange, 0}, {"1025", nil, api.ErrShort, 0}, {"2;1;0;", nil, api.ErrRange, 0}, {"2;31;x", nil, api.ErrRange, 0},
		{"", nil, api.ErrShort, 0}, {"2", nil, api.ErrShort, 0}, {"2;", nil, api.ErrShort, 0}, {"2;1;", nil, api.ErrShort, 0}, {"2;1;20", nil, api.ErrShort, 0},
		{"2;1;02;", nil, api.ErrCorrupt, 0}, {"02;1;2;", nil, api.ErrCorrupt, 0}, {"x", nil, api.ErrCorrupt, 0}, {"1;1:x,", nil, api.ErrCorrupt, 0},
	} {
		r := NewReader(x.data)
		if l := r.Numbers(1, 30); !slices.Equal(l, x.numbers) || r.Err() != x.e || r.Left() != x.left {
			t.Errorf("%.20q: %v %d %d", x.data, l, r.Err(), r.Left())
		}
	}
	for _, x := range []struct {
		data  string
		texts []string
		e     api.Errno
		left  int
	}{
		{"0;", nil, api.OK, 0}, {"2;0:,1:x,", []string{"", "x"}, api.OK, 0}, {"1;1:x,y", []string{"x"}, api.OK, 1}, {"1024;" + strings.Repeat("0:,", 1024), make([]string, 1024), api.OK, 0},
		{"1025;" + strings.Repeat("0:,", 1025), nil, api.ErrRange, 0}, {"2;1:x,4:abcd,", nil, api.ErrTooLarge, 0}, {"2;4:abcd,", nil, api.ErrTooLarge, 0},
		{"2;1:x,4:abcd", nil, api.ErrShort, 0}, {"2;1:x,", nil, api.ErrShort, 0}, {"", nil, api.ErrShort, 0}, {"2;1:xx", nil, api.ErrCorrupt, 0}, {"1;1;", nil, api.ErrCorrupt, 0}, {"1:x,", nil, api.ErrCorrupt, 0},
	} {
		r := NewReader(x.data)
		if l := r.Texts(3); !slices.Equal(l, x.texts) || r.Err() != x.e || r.Left() != x.left {
			t.Errorf("%.20q: %v %d %d", x.data, l, r.Err(), r.Left())
		}
	}
}

// P2.2 and P2.3: behind an error all reads have zero results, the first error stays, and the rest is empty.
func TestReadBehindError(t *testing.T) {
	for _, x := range []struct {
		data string
		read func(r *Reader)
		e    api.Errno
	}{
		{"1;2;", func(r *Reader) { r.Number(5, 9) }, api.ErrRange},
		{"x1;2;", func(r *Reader) { r.Number(0, 9) }, api.ErrCorrupt},
		{"12", func(r *Reader) { r.Number(0, 99) }, api.ErrShort},
		{"2:ab,1:x,1;", func(r *Reader) { r.Text(1) }, api.ErrTooLarge},
		{"2:abc1;1;", func(r *Reader) { r.Text(9) }, api.ErrCorrupt},
		{"2;1;9;1;1;1:x,", func(r *Reader) { r.Numbers(0, 5) }, api.ErrRange},
		{"2;1:x,2:xx,1;1;", func(r *Reader) { r.Texts(1) }, api.ErrTooLarge},
		{"", func(r *Reader) { r.Texts(1) }, api.ErrShort},
	} {
		r := NewReader(x.data)
		x.read(r)
		for range 2 {
			if n := r.Number(-9, 9); n != 0 {
				t.Error(x.data, n)
			}
			if s := r.Text(9); s != "" {
				t.Error(x.data, s)
			}
			if l := r.Numbers(-9, 9); len(l) != 0 {
				t.Error(x.data, l)
			}
			if l := r.Texts(9); len(l) != 0 {
				t.Error(x.data, l)
			}
			if r.Err() != x.e || r.Close() != x.e || r.Left() != 0 {
				t.Error(x.data, r.Err(), r.Close(), r.Left())
			}
		}
	}
}

// P2.2: Close says whether all was read, and changes nothing.
func TestClose(t *testing.T) {
	r := NewReader("1;2;")
	for left := 4; left > 0; left -= 2 {
		if r.Close() != api.ErrCorrupt || r.Close() != api.ErrCorrupt || r.Err() != api.OK || r.Left() != left {
			t.Error(left, r.Err(), r.Left())
		}
		if n := r.Number(0, 9); n != 3-left/2 {
			t.Error(left, n)
		}
	}
	if r.Close() != api.OK || r.Err() != api.OK || r.Left() != 0 {
		t.Error(r.Err())
	}
	if r.Number(0, 9) != 0 || r.Close() != api.ErrShort || r.Err() != api.ErrShort {
		t.Error(r.Err())
	}
	if empty := NewReader(""); empty.Close() != api.OK || empty.Err() != api.OK || empty.Left() != 0 {
		t.Error("empty")
	}
}

// P2.2: lists that are read are new memory.
func TestListsAreNew(t *testing.T) {
	r := NewReader("2;1;2;2;3;4;")
	a := r.Numbers(0, 9)
	a = append(a, 9)
	b := r.Numbers(0, 9)
	a[0] = 7
	if !slices.Equal(b, []int{3, 4}) || !slices.Equal(a, []int{7, 2, 9}) {
		t.Error(a, b)
	}
}
