package crc

import (
	"hash/crc32"
	"strings"
	"testing"
)

// polynomial is the chapter's.
const polynomial = 0xEDB88320

// byBits is the sum of bytes, as the chapter's words say it, bit by bit.
func byBits(s string) uint32 {
	n := uint32(0xffffffff)
	for i := 0; i < len(s); i++ {
		n ^= uint32(s[i])
		for k := 0; k < 8; k++ {
			low := n & 1
			n >>= 1
			if low == 1 {
				n ^= polynomial
			}
		}
	}
	return ^n
}

// walk is so many bytes, of all kinds, always the same ones.
func walk(many int) string {
	b := make([]byte, many)
	n := uint64(258)
	for i := range b {
		n = n*6364136223846793005 + 1442695040888963407
		b[i] = byte(n >> 56)
	}
	return string(b)
}

// texts are some of each kind: none, one byte of each value, noughts, ones, runes, bytes that are no runes, long ones.
func texts() []string {
	l := []string{"", "a", "abc", "123456789", "trefoil, on cores", "é\x80\xff\xc3", "日本", "\x00\x00\x00\x00", "\xff\xff\xff\xff", "\x00\xff\x00", strings.Repeat("\x00", 100), strings.Repeat("\xff", 100), strings.Repeat("ab", 1000)}
	for b := range 256 {
		l = append(l, string([]byte{byte(b)}), string([]byte{'x', byte(b), 0}))
	}
	for many := range 70 {
		l = append(l, walk(many))
	}
	return append(l, walk(4096), walk(100000))
}

// turned is bytes with the bits of a pattern turned, from the bit at a place on; a byte's lowest bit is its first, as the sum goes.
func turned(s string, at int, pattern uint64) string {
	b := []byte(s)
	for k := range 64 {
		if pattern>>k&1 == 1 {
			b[(at+k)/8] ^= 1 << ((at + k) % 8)
		}
	}
	return string(b)
}

// P3.1: the chapter's examples, and sums that are known.
func TestSum(t *testing.T) {
	for _, x := range []struct {
		s    string
		want uint32
	}{
		{"123456789", 3421780262},
		{"", 0},
		{"\x00", 0xd202ef8d},
		{"\xff", 0xff000000},
		{"a", 0xe8b7be43},
		{"abc", 0x352441c2},
		{"\x00\x00\x00\x00", 0x2144df1c},
		{"\xff\xff\xff\xff", 0xffffffff},
		{"The quick brown fox jumps over the lazy dog", 0x414fa339},
	} {
		if n := Sum(x.s); n != x.want {
			t.Errorf("Sum(%q): %d, want %d", x.s, n, x.want)
		}
	}
}

// P3.1: Sum is what the chapter's words say bit by bit, and what the library has.
func TestSumByBits(t *testing.T) {
	for _, s := range texts() {
		want := byBits(s)
		if n := Sum(s); n != want || n != crc32.ChecksumIEEE([]byte(s)) {
			t.Errorf("Sum of %d bytes: %d, want %d", len(s), n, want)
		}
	}
}

// P3.1: More is Sum of all, wherever the bytes are parted: at their beginning and end too.
func TestMore(t *testing.T) {
	for _, s := range []string{"", "a", "abc", "123456789", "\x00\x00\x00\x00\x00", "\xff\xff\xff\xff\xff", "é日\x80\xff", walk(200)} {
		for i := range len(s) + 1 {
			if n := More(Sum(s[:i]), s[i:]); n != byBits(s) {
				t.Errorf("More(Sum(%q), %q): %d, want %d", s[:i], s[i:], n, byBits(s))
			}
		}
	}
}

// P3.1: More, byte by byte, from a sum of no bytes on.
func TestMoreByBytes(t *testing.T) {
	s, n := walk(1000), Sum("")
	for i := range len(s) {
		n = More(n, s[i:i+1])
		if n != byBits(s[:i+1]) {
			t.Fatalf("More up to byte %d: %d, want %d", i, n, byBits(s[:i+1]))
		}
	}
}

// P3.1: More of no bytes is the sum itself, whichever it is; of a sum of no bytes it is Sum.
func TestMoreOfNothing(t *testing.T) {
	for k := range 32 {
		for _, sum := range []uint32{1<<k - 1, 1 << k, ^uint32(0) >> k, ^uint32(1 << k)} {
			if n := More(sum, ""); n != sum {
				t.Errorf("More(%d, nothing): %d", sum, n)
			}
		}
	}
	for _, s := range texts() {
		if n := More(0, s); n != byBits(s) {
			t.Errorf("More(0, %d bytes): %d, want %d", len(s), n, byBits(s))
		}
	}
}

// P3.1: More at any number whatever: it is the sum of some bytes, so it goes on as the library does.
func TestMoreOfAnySum(t *testing.T) {
	for k := range 32 {
		for _, sum := range []uint32{1<<k - 1, 1 << k, ^uint32(1 << k), 0xdeadbeef >> k} {
			for _, s := range []string{"\x00", "\xff", "abc", walk(20)} {
				if n, want := More(sum, s), crc32.Update(sum, crc32.IEEETable, []byte(s)); n != want {
					t.Errorf("More(%d, %q): %d, want %d", sum, s, n, want)
				}
			}
		}
	}
}

// P3.1: a Seal is the bytes and four more, the lowest one of the sum first.
func TestSeal(t *testing.T) {
	for _, x := range []struct{ s, want string }{
		{"", "\x00\x00\x00\x00"},
		{"123456789", "123456789\x26\x39\xf4\xcb"},
		{"abc", "abc\xc2\x41\x24\x35"},
		{"\xff", "\xff\x00\x00\x00\xff"},
		{"\x00\x00\x00\x00", "\x00\x00\x00\x00\x1c\xdf\x44\x21"},
	} {
		if s := Seal(x.s); s != x.want {
			t.Errorf("Seal(%q): %q, want %q", x.s, s, x.want)
		}
	}
	for _, s := range texts() {
		n := byBits(s)
		want := s + string([]byte{byte(n), byte(n >> 8), byte(n >> 16), byte(n >> 24)})
		if sealed := Seal(s); sealed != want || len(sealed) != len(s)+4 {
			t.Errorf("Seal of %d bytes: %d bytes, want %d", len(s), len(sealed), len(s)+4)
		}
	}
}

// P3.1, P3.2: what is sealed opens, sealed twice too.
func TestSealedOpens(t *testing.T) {
	for _, s := range texts() {
		if got, ok := Open(Seal(s)); got != s || !ok {
			t.Errorf("Open of the Seal of %d bytes: %d bytes, %t", len(s), len(got), ok)
		}
		if got, ok := Open(Seal(Seal(s))); got != Seal(s) || !ok {
			t.Errorf("Open of the Seal of the Seal of %d bytes: %d bytes, %t", len(s), len(got), ok)
		}
	}
}

// P3.1: bytes that are no Seal: none, fewer than a sum's, a sum's alone, some with none or another sum behind, or with it the other way round or elsewhere.
func TestOpenWrong(t *testing.T) {
	for _, s := range []string{
		"", "\x00", "\x00\x00", "\x00\x00\x00", "a", "ab", "abc", "\xff\xff\xff",
		"abcd", "\x01\x00\x00\x00", "\x00\x00\x00\x01", "\x00\x00\x00\x80", "\xff\xff\xff\xff",
		"\x00\x00\x00\x00\x00", "\x00\x00\x00\x00\x00\x00\x00\x00", "\xff\xff\xff\xff\xff\xff\xff",
		"123456789", "123456789\x00\x00\x00\x00", "123456789\xff\xff\xff\xff",
		"123456789\xcb\xf4\x39\x26", "\x26\x39\xf4\xcb123456789", "123456789\xd9\xc6\x0b\x34",
		"123456789\x26\x39\xf4", "123456789\x26\x39\xf4\xcb\x00", "\x00123456789\x26\x39\xf4\xcb", "23456789\x26\x39\xf4\xcb",
		"abc\xc2\x41\x24\x35a", "abc\xc2\x41\x24",
	} {
		if got, ok := Open(s); got != "" || ok {
			t.Errorf("Open(%q): %q, %t", s, got, ok)
		}
	}
}

// P3.1: of four bytes those of the sum of nothing alone open.
func TestOpenFour(t *testing.T) {
	if got, ok := Open("\x00\x00\x00\x00"); got != "" || !ok {
		t.Errorf("Open of four noughts: %q, %t", got, ok)
	}
	for at := range 4 {
		for b := 1; b < 256; b++ {
			four := make([]byte, 4)
			four[at] = byte(b)
			if got, ok := Open(string(four)); got != "" || ok {
				t.Errorf("Open(%q): %q, %t", four, got, ok)
			}
		}
	}
}

// P3.2: each byte of a text, or of its sum, turned into each other one is told.
func TestOneByte(t *testing.T) {
	for _, s := range []string{"", "a", "123456789", "\x00\x00\x00\x00\x00\x00", walk(40)} {
		sealed := Seal(s)
		for at := range sealed {
			for b := uint64(1); b < 256; b++ {
				other := turned(sealed, 8*at, b)
				if got, ok := Open(other); got != "" || ok {
					t.Errorf("Open(%q), byte %d turned: %q, %t", other, at, got, ok)
				}
				if at < len(s) && Sum(other[:len(s)]) == Sum(s) {
					t.Errorf("Sum(%q) is Sum(%q)", other[:len(s)], s)
				}
			}
		}
	}
}

// patterns are bits to be turned, so many in a row, the first and the last one always.
func patterns(bits int) []uint64 {
	last := uint64(1) << (bits - 1)
	l := []uint64{last | 1, 2*last - 1, polynomial&(last-1) | last | 1}
	n := uint64(258)
	for range 100 {
		n = n*6364136223846793005 + 1442695040888963407
		l = append(l, n>>20&(last-1)|last|1)
	}
	return l
}

// holdTurned holds that what is sealed doesn't open, and has another sum, with a pattern turned from any of its bits on: its beginning, its end and its sum too.
func holdTurned(t *testing.T, s string, bits int, pattern uint64) {
	t.Helper()
	sealed := Seal(s)
	for at := range 8*len(sealed) - bits + 1 {
		other := turned(sealed, at, pattern)
		if got, ok := Open(other); got != "" || ok {
			t.Fatalf("Open(%q), of %q, turned by %x from bit %d on: %q, %t", other, sealed, pattern, at, got, ok)
		}
		if at+bits <= 8*len(s) && Sum(other[:len(s)]) == Sum(s) {
			t.Fatalf("Sum(%q) is Sum(%q)", other[:len(s)], s)
		}
	}
}

// P3.2: bits in a row of at most 32, turned anywhere.
func TestBits(t *testing.T) {
	for _, s := range []string{"", "1234", "123456789", strings.Repeat("\x00", 12), walk(30)} {
		for bits := 1; bits <= 32; bits++ {
			for _, pattern := range patterns(bits) {
				holdTurned(t, s, bits, pattern)
			}
		}
	}
}

// P3.2: bits of which the last is 32 behind the first. The polynomial's own bits are such a row, and by P3.1's words leave each sum as it is: that one pattern is left out.
func TestBitsThirtyTwoApart(t *testing.T) {
	own := uint64(polynomial)<<1 | 1
	for _, s := range []string{"1234", "123456789", strings.Repeat("\x00", 12), walk(30)} {
		for _, pattern := range patterns(33) {
			if pattern != own {
				holdTurned(t, s, 33, pattern)
			}
		}
		for k := range 31 {
			holdTurned(t, s, 33, own^2<<k)
		}
	}
}

// P3.2: no two texts that differ in the first or in the last of four bytes have one sum.
func TestNoTwoAlike(t *testing.T) {
	for _, ahead := range []string{"", "ab", "\x00\x00\x00"} {
		seen := map[uint32]string{}
		for a := range 256 {
			for b := range 256 {
				s := ahead + string([]byte{byte(a), 'x', 'y', byte(b)})
				if other, ok := seen[Sum(s)]; ok {
					t.Fatalf("Sum(%q) is Sum(%q)", s, other)
				}
				seen[Sum(s)] = s
			}
		}
	}
}
