package decimal

import (
	"math"
	"strconv"
	"strings"
	"testing"
)

// Numbers lead back to themselves, if they do not have too many digits.
func TestNumbers(t *testing.T) {
	for _, n := range []int{0, 1, 9, 10, 99, 100, 1023, 9999, 10000, math.MaxInt} {
		text := strconv.Itoa(n)
		for digits := range 24 {
			m, is := Parse(text, digits)
			if is != (len(text) <= digits) || is && m != n || !is && m != 0 {
				t.Error(text, digits, m, is)
			}
		}
	}
}

// Texts that are none of a number.
func TestNoNumbers(t *testing.T) {
	for _, text := range []string{"", "-", "+", "-0", "+0", "-1", "+1", "00", "01", "007", " 1", "1 ", "1\r", "1\n", "1_0", "0x1", "1e3", "1.0", "a", "٣", "9223372036854775808", strings.Repeat("9", 40)} {
		if n, is := Parse(text, 99); is || n != 0 {
			t.Errorf("%q %d", text, n)
		}
	}
	if n, is := Parse("1", -1); is || n != 0 {
		t.Error(n, is)
	}
}
