package codec

import (
	"slices"
	"strings"
	"testing"

	"licit/api"
)

// P2.1: the bytes of numbers, with the bounds 0 and MaxNumber.
func TestNumber(t *testing.T) {
	for _, x := range []struct {
		n    int
		want string
		e    api.Errno
	}{
		{0, "0;", api.OK}, {9, "9;", api.OK}, {10, "10;", api.OK}, {1024, "1024;", api.OK},
		{api.MaxNumber - 1, "281474976710655;", api.OK}, {api.MaxNumber, "281474976710656;", api.OK},
		{api.MaxNumber + 1, "", api.ErrRange}, {1<<63 - 1, "", api.ErrRange}, {-1, "", api.ErrRange}, {-1 << 63, "", api.ErrRange},
	} {
		if s, e := Number(x.n); s != x.want || e != x.e {
			t.Error(x.n, s, e)
		}
	}
}

// P2.1: the bytes of texts, whatever bytes they have, up to MaxData.
func TestText(t *testing.T) {
	most := strings.Repeat("x", api.MaxData)
	for _, x := range []struct {
		s, want string
		e       api.Errno
	}{
		{"", "0:,", api.OK}, {"ab", "2:ab,", api.OK}, {"4:a,,", "5:4:a,,,", api.OK}, {"\x00\xff\n", "3:\x00\xff\n,", api.OK},
		{"é", "2:é,", api.OK}, {"0123456789", "10:0123456789,", api.OK},
		{most, "65536:" + most + ",", api.OK}, {most + "x", "", api.ErrTooLarge}, {most + most, "", api.ErrTooLarge},
	} {
		if s, e := Text(x.s); s != x.want || e != x.e {
			t.Error(len(x.s), len(s), e)
		}
	}
}

// P2.1: the bytes of lists of numbers; a list that is too long is noticed before its numbers are.
func TestNumbers(t *testing.T) {
	for _, x := range []struct {
		l    []int
		want string
		e    api.Errno
	}{
		{nil, "0;", api.OK}, {[]int{}, "0;", api.OK}, {[]int{1, 20}, "2;1;20;", api.OK}, {[]int{api.MaxNumber, 0}, "2;281474976710656;0;", api.OK},
		{make([]int, api.MaxList), "1024;" + strings.Repeat("0;", api.MaxList), api.OK},
		{make([]int, api.MaxList+1), "", api.ErrTooLarge},
		{slices.Repeat([]int{-1}, api.MaxList+1), "", api.ErrTooLarge},
		{slices.Repeat([]int{-1}, api.MaxList), "", api.ErrRange},
		{[]int{0, -1}, "", api.ErrRange}, {[]int{api.MaxNumber + 1, 0}, "", api.ErrRange},
	} {
		before := slices.Clone(x.l)
		if s, e := Numbers(x.l); s != x.want || e != x.e || !slices.Equal(before, x.l) {
			t.Error(len(x.l), s, e)
		}
	}
}

// P2.1: the bytes of lists of texts.
func TestTexts(t *testing.T) {
	large := strings.Repeat("x", api.MaxData+1)
	for _, x := range []struct {
		l    []string
		want string
		e    api.Errno
	}{
		{nil, "0;", api.OK}, {[]string{}, "0;", api.OK}, {[]string{"", "x"}, "2;0:,1:x,", api.OK}, {[]string{large[1:]}, "1;65536:" + large[1:] + ",", api.OK},
		{make([]string, api.MaxList), "1024;" + strings.Repeat("0:,", api.MaxList), api.OK},
		{make([]string, api.MaxList+1), "", api.ErrTooLarge}, {[]string{"", large}, "", api.ErrTooLarge}, {[]string{large, ""}, "", api.ErrTooLarge},
	} {
		before := slices.Clone(x.l)
		if s, e := Texts(x.l); s != x.want || e != x.e || !slices.Equal(before, x.l) {
			t.Error(len(x.l), len(s), e)
		}
	}
}
