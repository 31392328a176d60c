package digest

import (
	"crypto/sha3"
	"strings"
	"testing"

	"licit/api"
)

// someData returns n bytes, with all values of bytes in long ones.
func someData(n int) string {
	data := make([]byte, n)
	for i := range data {
		data[i] = byte(7*i + n)
	}
	return string(data)
}

// P1.1: known digests, with lengths around the multiples of 136.
func TestSumKnown(t *testing.T) {
	for _, x := range []struct{ data, want string }{
		{"", "a7ffc6f8bf1ed76651c14756a061d662f580ff4de43b49fa82d80a4b80f8434a"},
		{"abc", "3a985da74fe225b2045c172d6bd390bd855f086e3e9d525b46bfe24511431532"},
		{"abcdbcdecdefdefgefghfghighijhijkijkljklmklmnlmnomnopnopq", "41c0dba2a9d6240849100376a8235e2c82e1b9998a999e21db32dd97496d3376"},
		{strings.Repeat("\xa3", 200), "79f38adec5c20307a98ef76e8324afbfd46cfd81b22e3973c65fa1bd9de31787"},
		{someData(1), "2767f15c8af2f2c7225d5273fdd683edc714110a987d1054697c348aed4e6cc7"},
		{someData(135), "a936dec012587abe2bee1422bd71aa34ca72f35da145948cdf9e03a50e7e1c9b"},
		{someData(136), "bdd56554bf27dee4a5d55347bc41811864f1bc07afd58416ce76862888580fee"},
		{someData(137), "e38f198ccc57fe1df7edf60217fb68c5c7dbcc1ad5c95980e3557b6e1fbd1321"},
		{someData(271), "e47233ec4e72084cb0020a93bb97b68cf5a7f0bef72646fc5d7a777e3c69c51e"},
		{someData(272), "e90e9c0b0a15ef6f9749e4f1fbd150ca71f66b7a3060166eb397a96f8129fcd9"},
		{someData(273), "78cc74e118fd2a6e6dac2894805dd040d1399a74f0be8a74419dd618ffb998c4"},
		{someData(408), "f193757f34c903b6fedc35f1de4b5d91f2d83b62d8051022b4d37e6a10f9a615"},
	} {
		if s, e := Hex(Sum(x.data)); s != x.want || e != api.OK {
			t.Error(len(x.data), s, e)
		}
	}
}

// P1.1: the digests of all lengths up to some blocks, and of a long string, are those of another implementation.
func TestSumLengths(t *testing.T) {
	for n := range 5*136 + 2 {
		data := someData(n)
		if want := sha3.Sum256([]byte(data)); Sum(data) != string(want[:]) {
			t.Error(n)
		}
	}
	data := someData(1<<20 + 5)
	if want := sha3.Sum256([]byte(data)); Sum(data) != string(want[:]) {
		t.Error("long")
	}
	if zeros := strings.Repeat("\x00", 136); Sum(zeros) == Sum("") || Sum(zeros) == Sum(zeros[1:]) {
		t.Error("zeros")
	}
}

// P1.2: Write returns how many bytes were taken in in all, for any number of strings.
func TestWriteCounts(t *testing.T) {
	s := New()
	for _, x := range []struct {
		parts []string
		want  int
	}{{nil, 0}, {[]string{""}, 0}, {[]string{"a"}, 1}, {nil, 1}, {[]string{"bc", "", "def"}, 6}, {[]string{someData(400), someData(2)}, 408}, {[]string{}, 408}} {
		if n := s.Write(x.parts...); n != x.want {
			t.Error(x.want, n)
		}
	}
	if s.Sum() != Sum("abcdef"+someData(400)+someData(2)) {
		t.Error("digest")
	}
}

// P1.2: a new sponge has taken in nothing, and Sum does not change a sponge.
func TestSumChangesNothing(t *testing.T) {
	s := New()
	if s.Sum() != Sum("") || s.Write() != 0 {
		t.Error("new")
	}
	data := someData(300)
	for i := range len(data) {
		s.Write(data[i : i+1])
		if s.Sum() != s.Sum() || s.Sum() != Sum(data[:i+1]) || s.Write() != i+1 {
			t.Error(i)
		}
	}
	other := New()
	if other.Sum() != Sum("") {
		t.Error("sponges are not independent")
	}
}

// P1.2: a clone and its sponge do not change each other.
func TestCloneIsIndependent(t *testing.T) {
	for _, n := range []int{0, 1, 7, 8, 135, 136, 137, 272} {
		data := someData(n)
		s := New()
		s.Write(data)
		c := s.Clone()
		if c.Sum() != Sum(data) || c.Write() != n {
			t.Error(n, "clone")
		}
		if c.Write("clone") != n+5 || s.Sum() != Sum(data) {
			t.Error(n, "the clone has changed the sponge")
		}
		if s.Write(data, "sponge") != 2*n+6 || c.Sum() != Sum(data+"clone") {
			t.Error(n, "the sponge has changed the clone")
		}
		if s.Sum() != Sum(data+data+"sponge") {
			t.Error(n, "sponge")
		}
	}
}

// P1.3: Hex returns the text of a digest, with each value of a byte.
func TestHex(t *testing.T) {
	for first := 0; first < 256; first += 32 {
		digest, want := "", ""
		for i := first; i < first+32; i++ {
			digest += string([]byte{byte(i)})
			want += "0123456789abcdef"[i/16:i/16+1] + "0123456789abcdef"[i%16:i%16+1]
		}
		if s, e := Hex(digest); s != want || e != api.OK {
			t.Error(first, s, e)
		}
		if s, e := Parse(want); s != digest || e != api.OK {
			t.Error(first, s, e)
		}
	}
}

// P1.3: what does not have 32 bytes has no text.
func TestHexErrors(t *testing.T) {
	for _, n := range []int{0, 1, 31, 33, 64, 1000} {
		if s, e := Hex(someData(n)); s != "" || e != api.ErrArg {
			t.Error(n, s, e)
		}
	}
}

// P1.3: only the text of a digest is parsed.
func TestParseErrors(t *testing.T) {
	good := strings.Repeat("09af", 16)
	if _, e := Parse(good); e != api.OK {
		t.Error(e)
	}
	for _, s := range []string{"", "0", good[1:], good + "0", good + good, good[1:] + "A", good[2:] + "é", strings.ToUpper(good), " " + good[1:], good[1:] + "\n", Sum("")} {
		if d, e := Parse(s); d != "" || e != api.ErrSyntax {
			t.Errorf("%q %q %d", s, d, e)
		}
	}
	for c := range 256 {
		digit := c >= '0' && c <= '9' || c >= 'a' && c <= 'f'
		for i := range len(good) {
			text := good[:i] + string([]byte{byte(c)}) + good[i+1:]
			if _, e := Parse(text); (e == api.OK) != digit {
				t.Error(i, c, e)
			}
		}
	}
}

// P1.4: the digest does not depend on how a string is divided among calls of Write, nor among the strings of a call.
func TestDivision(t *testing.T) {
	data := someData(420)
	want := Sum(data)
	for i := range len(data) + 1 {
		calls, parts := New(), New()
		calls.Write(data[:i])
		calls.Write(data[i:])
		parts.Write(data[:i], data[i:])
		if calls.Sum() != want || parts.Sum() != want {
			t.Error(i)
		}
	}
	for size := 1; size < 140; size++ {
		s := New()
		for rest := data; rest != ""; {
			n := min(size, len(rest))
			s.Write(rest[:n])
			rest = rest[n:]
		}
		if s.Sum() != want {
			t.Error("size", size)
		}
	}
}

// P1.4: Parse undoes Hex, and digests have 32 bytes.
func TestParseUndoesHex(t *testing.T) {
	text := "start"
	for range 100 {
		digest := Sum(text)
		s, e := Hex(digest)
		back, f := Parse(s)
		if len(digest) != api.DigestSize || len(s) != 2*api.DigestSize || e != api.OK || f != api.OK || back != digest {
			t.Error(text, s, e, f)
		}
		text = s
	}
}
