package wire

import (
	"encoding/binary"
	"math"
	"slices"
	"strings"
	"testing"

	"trefoil/api"
)

// widths are those that may be.
var widths = []int{1, 2, 4, 8}

// wrongWidths are others: between those that may be, beside them, and far beyond.
var wrongWidths = []int{api.MinInt, api.MinInt + 1, -8, -4, -2, -1, 0, 3, 5, 6, 7, 9, 10, 16, 32, 64, 1<<32 + 1, 1<<32 + 8, api.MaxInt}

// greatest is the greatest number that so many bytes take.
func greatest(width int) int {
	if width == 8 {
		return math.MaxInt64
	}
	return 1<<(8*width) - 1
}

// numbers are those, of all edges and of a walk through all sizes, that so many bytes take.
func numbers(width int) []int {
	l := []int{0, 1, 2, 127, 128, 254, 255, greatest(width) - 1, greatest(width)}
	for k := range 8 * width {
		for _, n := range []uint64{1<<k - 1, 1 << k, 1<<k + 1} {
			l = append(l, int(n&uint64(greatest(width))))
		}
	}
	n := uint64(258)
	for range 1000 {
		n = n*6364136223846793005 + 1442695040888963407
		l = append(l, int(n>>1&uint64(greatest(width))), int(n>>(n>>58)&uint64(greatest(width))))
	}
	slices.Sort(l)
	return slices.Compact(l)
}

// plain is a number's bytes, as the library has them.
func plain(n, width int) string {
	return string(binary.LittleEndian.AppendUint64(nil, uint64(n))[:width])
}

// P2.1: Put, at ordinary numbers, and around the greatest one of each width.
func TestPut(t *testing.T) {
	for _, x := range []struct {
		n, width int
		s        string
		want     api.Errno
	}{
		{0, 1, "\x00", api.OK},
		{0, 2, "\x00\x00", api.OK},
		{0, 4, "\x00\x00\x00\x00", api.OK},
		{0, 8, "\x00\x00\x00\x00\x00\x00\x00\x00", api.OK},
		{1, 1, "\x01", api.OK},
		{7, 4, "\x07\x00\x00\x00", api.OK},
		{258, 2, "\x02\x01", api.OK},
		{258, 4, "\x02\x01\x00\x00", api.OK},
		{258, 8, "\x02\x01\x00\x00\x00\x00\x00\x00", api.OK},
		{0x0102030405060708, 8, "\x08\x07\x06\x05\x04\x03\x02\x01", api.OK},
		{1<<8 - 1, 1, "\xff", api.OK},
		{1 << 8, 1, "", api.ErrWireGreat},
		{1 << 8, 2, "\x00\x01", api.OK},
		{1<<16 - 1, 2, "\xff\xff", api.OK},
		{1 << 16, 1, "", api.ErrWireGreat},
		{1 << 16, 2, "", api.ErrWireGreat},
		{1 << 16, 4, "\x00\x00\x01\x00", api.OK},
		{1<<32 - 1, 4, "\xff\xff\xff\xff", api.OK},
		{1 << 32, 1, "", api.ErrWireGreat},
		{1 << 32, 2, "", api.ErrWireGreat},
		{1 << 32, 4, "", api.ErrWireGreat},
		{1 << 32, 8, "\x00\x00\x00\x00\x01\x00\x00\x00", api.OK},
		{api.MaxInt, 8, "\xff\xff\xff\xff\xff\xff\xff\x7f", api.OK},
		{api.MaxInt, 4, "", api.ErrWireGreat},
		{api.MaxInt, 1, "", api.ErrWireGreat},
	} {
		if s, e := Put(x.n, x.width); s != x.s || e != x.want {
			t.Errorf("Put(%d, %d): %q, %d, want %q, %d", x.n, x.width, s, e, x.s, x.want)
		}
	}
}

// P2.1: no number below 0 is put, in no width.
func TestPutBelow(t *testing.T) {
	for _, n := range []int{-1, -2, -128, -256, -1 << 32, api.MinInt + 1, api.MinInt} {
		for _, width := range widths {
			if s, e := Put(n, width); s != "" || e != api.ErrWireGreat {
				t.Errorf("Put(%d, %d): %q, %d", n, width, s, e)
			}
		}
	}
}

// P2.1: Get, at places in the bytes, at their end, and outside.
func TestGet(t *testing.T) {
	s := "\x01\x02\x03\x04\x05\x06\x07\x08\x09"
	for _, x := range []struct {
		at, width, n int
		want         api.Errno
	}{
		{0, 1, 1, api.OK},
		{8, 1, 9, api.OK},
		{0, 2, 513, api.OK},
		{1, 2, 770, api.OK},
		{7, 2, 0x0908, api.OK},
		{0, 4, 0x04030201, api.OK},
		{5, 4, 0x09080706, api.OK},
		{0, 8, 0x0807060504030201, api.OK},
		{1, 8, 0x0908070605040302, api.OK},
		{9, 1, 0, api.ErrWireShort},
		{10, 1, 0, api.ErrWireShort},
		{8, 2, 0, api.ErrWireShort},
		{9, 2, 0, api.ErrWireShort},
		{6, 4, 0, api.ErrWireShort},
		{2, 8, 0, api.ErrWireShort},
		{11, 8, 0, api.ErrWireShort},
		{-1, 1, 0, api.ErrWireShort},
		{-1, 8, 0, api.ErrWireShort},
		{-9, 2, 0, api.ErrWireShort},
		{1 << 32, 1, 0, api.ErrWireShort},
		{api.MaxInt, 1, 0, api.ErrWireShort},
		{api.MaxInt, 8, 0, api.ErrWireShort},
		{api.MaxInt - 1, 2, 0, api.ErrWireShort},
		{api.MaxInt - 7, 8, 0, api.ErrWireShort},
		{api.MinInt, 1, 0, api.ErrWireShort},
		{api.MinInt + 1, 8, 0, api.ErrWireShort},
	} {
		if n, e := Get(s, x.at, x.width); n != x.n || e != x.want {
			t.Errorf("Get(.., %d, %d): %d, %d, want %d, %d", x.at, x.width, n, e, x.n, x.want)
		}
	}
}

// P2.1: bytes that are no number, too few of them, and a number's highest bit, in each width.
func TestGetBytes(t *testing.T) {
	for _, x := range []struct {
		s     string
		width int
		n     int
		want  api.Errno
	}{
		{"", 1, 0, api.ErrWireShort},
		{"", 8, 0, api.ErrWireShort},
		{"\xff", 2, 0, api.ErrWireShort},
		{"\xff\xff\xff", 4, 0, api.ErrWireShort},
		{"\xff\xff\xff\xff\xff\xff\xff", 8, 0, api.ErrWireShort},
		{"\x00", 1, 0, api.OK},
		{"\x80", 1, 1 << 7, api.OK},
		{"\xff", 1, 1<<8 - 1, api.OK},
		{"\x00\x80", 2, 1 << 15, api.OK},
		{"\xff\xff", 2, 1<<16 - 1, api.OK},
		{"\x00\x00\x00\x80", 4, 1 << 31, api.OK},
		{"\xff\xff\xff\xff", 4, 1<<32 - 1, api.OK},
		{"\xff\xff\xff\xff\xff\xff\xff\x7f", 8, api.MaxInt, api.OK},
		{"\x00\x00\x00\x00\x00\x00\x00\x80", 8, 0, api.ErrWireGreat},
		{"\x01\x00\x00\x00\x00\x00\x00\x80", 8, 0, api.ErrWireGreat},
		{"\xff\xff\xff\xff\xff\xff\xff\xff", 8, 0, api.ErrWireGreat},
	} {
		if n, e := Get(x.s, 0, x.width); n != x.n || e != x.want {
			t.Errorf("Get(%q, 0, %d): %d, %d, want %d, %d", x.s, x.width, n, e, x.n, x.want)
		}
	}
}

// P2.1: a width that isn't there is told first of all, whatever else is wrong, or nothing is.
func TestWide(t *testing.T) {
	for _, width := range wrongWidths {
		for _, n := range []int{0, 1, -1, api.MaxInt, api.MinInt} {
			if s, e := Put(n, width); s != "" || e != api.ErrWireWide {
				t.Errorf("Put(%d, %d): %q, %d", n, width, s, e)
			}
			if s, e := Row([]int{0, n}, width); s != "" || e != api.ErrWireWide {
				t.Errorf("Row([0 %d], %d): %q, %d", n, width, s, e)
			}
			if m, e := Get("\xff\xff\xff\xff\xff\xff\xff\xff\xff", n, width); m != 0 || e != api.ErrWireWide {
				t.Errorf("Get(.., %d, %d): %d, %d", n, width, m, e)
			}
			for _, many := range []int{0, 1, -1, api.MaxInt} {
				if l, at, e := Unrow("\xff\xff\xff\xff\xff\xff\xff\xff\xff", n, many, width); len(l) != 0 || at != 0 || e != api.ErrWireWide {
					t.Errorf("Unrow(.., %d, %d, %d): %v, %d, %d", n, many, width, l, at, e)
				}
			}
		}
		if s, e := Row(nil, width); s != "" || e != api.ErrWireWide {
			t.Errorf("Row(nil, %d): %q, %d", width, s, e)
		}
	}
}

// P2.2: rows, of no number too, and the first number's error.
func TestRow(t *testing.T) {
	for _, x := range []struct {
		l     []int
		width int
		s     string
		want  api.Errno
	}{
		{nil, 1, "", api.OK},
		{[]int{}, 8, "", api.OK},
		{[]int{0}, 1, "\x00", api.OK},
		{[]int{1, 2, 3}, 1, "\x01\x02\x03", api.OK},
		{[]int{1, 2, 3}, 2, "\x01\x00\x02\x00\x03\x00", api.OK},
		{[]int{258, 1 << 24}, 4, "\x02\x01\x00\x00\x00\x00\x00\x01", api.OK},
		{[]int{api.MaxInt, 0}, 8, "\xff\xff\xff\xff\xff\xff\xff\x7f\x00\x00\x00\x00\x00\x00\x00\x00", api.OK},
		{[]int{255, 255}, 1, "\xff\xff", api.OK},
		{[]int{255, 256}, 1, "", api.ErrWireGreat},
		{[]int{256, 255}, 1, "", api.ErrWireGreat},
		{[]int{1, 1 << 16, 2}, 2, "", api.ErrWireGreat},
		{[]int{1, 2, 1 << 32}, 4, "", api.ErrWireGreat},
		{[]int{1, 2, -1}, 8, "", api.ErrWireGreat},
		{[]int{api.MinInt}, 1, "", api.ErrWireGreat},
	} {
		if s, e := Row(x.l, x.width); s != x.s || e != x.want {
			t.Errorf("Row(%v, %d): %q, %d, want %q, %d", x.l, x.width, s, e, x.s, x.want)
		}
	}
}

// P2.2: a row is Put of each one, one behind the other.
func TestRowIsPuts(t *testing.T) {
	for _, width := range widths {
		l := numbers(width)
		puts := ""
		for _, n := range l {
			s, e := Put(n, width)
			if e != api.OK {
				t.Fatalf("Put(%d, %d): %d", n, width, e)
			}
			puts += s
		}
		if s, e := Row(l, width); s != puts || e != api.OK {
			t.Errorf("Row of %d numbers in width %d: %d", len(l), width, e)
		}
	}
}

// Rules: what is handed in isn't changed, the spare room included.
func TestRowKeepsList(t *testing.T) {
	l := []int{4, 5, 6, 7, 8}
	if s, e := Row(l[:3], 1); s != "\x04\x05\x06" || e != api.OK {
		t.Errorf("Row(4, 5, 6): %q, %d", s, e)
	}
	if !slices.Equal(l, []int{4, 5, 6, 7, 8}) {
		t.Errorf("Row changed its list: %v", l)
	}
}

// P2.2: numbers out of a row, and the place behind; no numbers, up to the bytes' end and no farther.
func TestUnrow(t *testing.T) {
	s := "\x01\x02\x03\x04\x05\x06\x07\x08\x09"
	for _, x := range []struct {
		at, many, width int
		l               []int
		behind          int
		want            api.Errno
	}{
		{0, 9, 1, []int{1, 2, 3, 4, 5, 6, 7, 8, 9}, 9, api.OK},
		{2, 3, 1, []int{3, 4, 5}, 5, api.OK},
		{0, 4, 2, []int{0x0201, 0x0403, 0x0605, 0x0807}, 8, api.OK},
		{1, 4, 2, []int{0x0302, 0x0504, 0x0706, 0x0908}, 9, api.OK},
		{1, 2, 4, []int{0x05040302, 0x09080706}, 9, api.OK},
		{1, 1, 8, []int{0x0908070605040302}, 9, api.OK},
		{8, 1, 1, []int{9}, 9, api.OK},
		{0, 0, 1, nil, 0, api.OK},
		{4, 0, 8, nil, 4, api.OK},
		{9, 0, 1, nil, 9, api.OK},
		{9, 0, 8, nil, 9, api.OK},
		{10, 0, 1, nil, 0, api.ErrWireShort},
		{10, 0, 8, nil, 0, api.ErrWireShort},
		{11, 0, 2, nil, 0, api.ErrWireShort},
		{api.MaxInt, 0, 1, nil, 0, api.ErrWireShort},
		{-1, 0, 1, nil, 0, api.ErrWireShort},
		{api.MinInt, 0, 4, nil, 0, api.ErrWireShort},
		{0, -1, 1, nil, 0, api.ErrWireShort},
		{9, -1, 1, nil, 0, api.ErrWireShort},
		{5, -4, 2, nil, 0, api.ErrWireShort},
		{0, api.MinInt, 8, nil, 0, api.ErrWireShort},
		{0, 10, 1, nil, 0, api.ErrWireShort},
		{1, 9, 1, nil, 0, api.ErrWireShort},
		{9, 1, 1, nil, 0, api.ErrWireShort},
		{0, 5, 2, nil, 0, api.ErrWireShort},
		{2, 4, 2, nil, 0, api.ErrWireShort},
		{2, 2, 4, nil, 0, api.ErrWireShort},
		{0, 2, 8, nil, 0, api.ErrWireShort},
		{2, 1, 8, nil, 0, api.ErrWireShort},
		{api.MaxInt, 1, 1, nil, 0, api.ErrWireShort},
		{api.MaxInt - 7, 1, 8, nil, 0, api.ErrWireShort},
		{api.MinInt, 1, 1, nil, 0, api.ErrWireShort},
		{-1, api.MaxInt, 1, nil, 0, api.ErrWireShort},
		{0, api.MaxInt, 1, nil, 0, api.ErrWireShort},
		{0, api.MaxInt, 8, nil, 0, api.ErrWireShort},
		{1, api.MaxInt, 1, nil, 0, api.ErrWireShort},
		// Many times the width wraps round to 0, to 8, or to less than 0.
		{0, 1 << 61, 8, nil, 0, api.ErrWireShort},
		{0, 1<<61 + 1, 8, nil, 0, api.ErrWireShort},
		{0, 1 << 60, 8, nil, 0, api.ErrWireShort},
		{0, 1 << 62, 4, nil, 0, api.ErrWireShort},
		{1, 1<<62 + 1, 4, nil, 0, api.ErrWireShort},
		{0, 1 << 62, 2, nil, 0, api.ErrWireShort},
	} {
		if l, behind, e := Unrow(s, x.at, x.many, x.width); !slices.Equal(l, x.l) || behind != x.behind || e != x.want {
			t.Errorf("Unrow(.., %d, %d, %d): %v, %d, %d, want %v, %d, %d", x.at, x.many, x.width, l, behind, e, x.l, x.behind, x.want)
		}
	}
}

// P2.2: a number in the row that is too great; too few bytes are told ahead of it.
func TestUnrowGreat(t *testing.T) {
	good, bad := "\xff\xff\xff\xff\xff\xff\xff\x7f", "\x00\x00\x00\x00\x00\x00\x00\x80"
	for _, x := range []struct {
		s        string
		at, many int
		l        []int
		behind   int
		want     api.Errno
	}{
		{good + bad, 0, 1, []int{api.MaxInt}, 8, api.OK},
		{good + bad, 8, 0, nil, 8, api.OK},
		{bad + good, 8, 1, []int{api.MaxInt}, 16, api.OK},
		{good + bad, 0, 2, nil, 0, api.ErrWireGreat},
		{bad + good, 0, 2, nil, 0, api.ErrWireGreat},
		{bad, 0, 1, nil, 0, api.ErrWireGreat},
		{bad, 0, 2, nil, 0, api.ErrWireShort},
		{bad, 0, -1, nil, 0, api.ErrWireShort},
		{bad + good[:7], 0, 2, nil, 0, api.ErrWireShort},
	} {
		if l, behind, e := Unrow(x.s, x.at, x.many, 8); !slices.Equal(l, x.l) || behind != x.behind || e != x.want {
			t.Errorf("Unrow(%q, %d, %d, 8): %v, %d, %d, want %v, %d, %d", x.s, x.at, x.many, l, behind, e, x.l, x.behind, x.want)
		}
	}
}

// P2.2: of no bytes no numbers are had, and no others.
func TestUnrowNothing(t *testing.T) {
	for _, width := range widths {
		if l, behind, e := Unrow("", 0, 0, width); len(l) != 0 || behind != 0 || e != api.OK {
			t.Errorf("Unrow of nothing, 0, 0, %d: %v, %d, %d", width, l, behind, e)
		}
		for _, x := range [][2]int{{0, 1}, {1, 0}, {-1, 0}, {0, -1}, {0, api.MaxInt}} {
			if l, behind, e := Unrow("", x[0], x[1], width); len(l) != 0 || behind != 0 || e != api.ErrWireShort {
				t.Errorf("Unrow of nothing, %d, %d, %d: %v, %d, %d", x[0], x[1], width, l, behind, e)
			}
		}
	}
}

// P2.3: parts, and what is left: no sizes, a size of 0, all of the bytes, and more.
func TestCut(t *testing.T) {
	for _, x := range []struct {
		s     string
		sizes []int
		parts []string
		left  string
		want  api.Errno
	}{
		{"abcdef", []int{2, 3}, []string{"ab", "cde"}, "f", api.OK},
		{"abcdef", []int{2, 0, 3}, []string{"ab", "", "cde"}, "f", api.OK},
		{"abcdef", []int{1, 2, 3}, []string{"a", "bc", "def"}, "", api.OK},
		{"abcdef", []int{6}, []string{"abcdef"}, "", api.OK},
		{"abcdef", []int{6, 0, 0}, []string{"abcdef", "", ""}, "", api.OK},
		{"abcdef", []int{0, 6}, []string{"", "abcdef"}, "", api.OK},
		{"abcdef", []int{5}, []string{"abcde"}, "f", api.OK},
		{"abcdef", []int{0}, []string{""}, "abcdef", api.OK},
		{"abcdef", nil, nil, "abcdef", api.OK},
		{"abcdef", []int{}, nil, "abcdef", api.OK},
		{"", nil, nil, "", api.OK},
		{"", []int{0}, []string{""}, "", api.OK},
		{"", []int{0, 0, 0}, []string{"", "", ""}, "", api.OK},
		{"\x00\xff\x80é\x00", []int{2, 2}, []string{"\x00\xff", "\x80\xc3"}, "\xa9\x00", api.OK},
		{"", []int{1}, nil, "", api.ErrWireShort},
		{"abcdef", []int{7}, nil, "", api.ErrWireShort},
		{"abcdef", []int{6, 1}, nil, "", api.ErrWireShort},
		{"abcdef", []int{2, 2, 3}, nil, "", api.ErrWireShort},
		{"abcdef", []int{2, 5, 0}, nil, "", api.ErrWireShort},
		{"abcdef", []int{-1}, nil, "", api.ErrWireShort},
		{"abcdef", []int{2, -1}, nil, "", api.ErrWireShort},
		{"abcdef", []int{2, -1, 2}, nil, "", api.ErrWireShort},
		{"abcdef", []int{-1, 7}, nil, "", api.ErrWireShort},
		{"abcdef", []int{7, -1}, nil, "", api.ErrWireShort},
		{"", []int{-1}, nil, "", api.ErrWireShort},
		{"", []int{-1, 1}, nil, "", api.ErrWireShort},
		{"abcdef", []int{api.MinInt}, nil, "", api.ErrWireShort},
		{"abcdef", []int{api.MaxInt}, nil, "", api.ErrWireShort},
		// Sizes whose sum wraps round to 0, to 1, or to less than 0.
		{"abcdef", []int{api.MaxInt, api.MaxInt, 2}, nil, "", api.ErrWireShort},
		{"abcdef", []int{api.MaxInt, 1}, nil, "", api.ErrWireShort},
		{"abcdef", []int{1, api.MaxInt}, nil, "", api.ErrWireShort},
		{"abcdef", []int{3, api.MaxInt, api.MaxInt}, nil, "", api.ErrWireShort},
		{"abcdef", []int{1 << 62, 1 << 62, 1 << 62, 1 << 62}, nil, "", api.ErrWireShort},
	} {
		if parts, left, e := Cut(x.s, x.sizes...); !slices.Equal(parts, x.parts) || left != x.left || e != x.want {
			t.Errorf("Cut(%q, %v): %q, %q, %d, want %q, %q, %d", x.s, x.sizes, parts, left, e, x.parts, x.left, x.want)
		}
	}
}

// P2.3: however it is cut, the parts are as long as was told, and make up the bytes again.
func TestCutJoins(t *testing.T) {
	s := "trefoil, on cores"
	for a := range len(s) + 1 {
		for b := range len(s) + 1 - a {
			parts, left, e := Cut(s, a, 0, b)
			if e != api.OK || len(parts) != 3 {
				t.Fatalf("Cut(.., %d, 0, %d): %q, %q, %d", a, b, parts, left, e)
			}
			if len(parts[0]) != a || parts[1] != "" || len(parts[2]) != b || strings.Join(parts, "")+left != s {
				t.Errorf("Cut(.., %d, 0, %d): %q, %q", a, b, parts, left)
			}
		}
	}
}

// Rules: what is handed in isn't changed, the spare room included.
func TestCutKeepsSizes(t *testing.T) {
	sizes := []int{1, 2, 3, 4, 5}
	if parts, left, e := Cut("abcdef", sizes[:2]...); !slices.Equal(parts, []string{"a", "bc"}) || left != "def" || e != api.OK {
		t.Errorf("Cut(abcdef, 1, 2): %q, %q, %d", parts, left, e)
	}
	if !slices.Equal(sizes, []int{1, 2, 3, 4, 5}) {
		t.Errorf("Cut changed its sizes: %v", sizes)
	}
}

// P2.4: what is put, alone or in a row, is got, and the bytes are those that the library has.
func TestPutIsGot(t *testing.T) {
	for _, width := range widths {
		l := numbers(width)
		for _, n := range l {
			s, e := Put(n, width)
			if e != api.OK || s != plain(n, width) {
				t.Errorf("Put(%d, %d): %q, %d", n, width, s, e)
			}
			if got, e := Get("\xff"+s+"\xff", 1, width); got != n || e != api.OK {
				t.Errorf("Get of Put(%d, %d): %d, %d", n, width, got, e)
			}
		}
		row, e := Row(l, width)
		if e != api.OK || len(row) != len(l)*width {
			t.Fatalf("Row in width %d: %d bytes, %d", width, len(row), e)
		}
		got, behind, e := Unrow("ahead"+row+"behind", 5, len(l), width)
		if !slices.Equal(got, l) || behind != 5+len(row) || e != api.OK {
			t.Errorf("Unrow of Row in width %d: %d numbers, %d, %d", width, len(got), behind, e)
		}
	}
}

// P2.4: no two numbers are put alike: all of one and two bytes, and the edges of more.
func TestNoTwoAlike(t *testing.T) {
	for _, width := range widths {
		l := numbers(width)
		if width <= 2 {
			l = nil
			for n := range greatest(width) + 1 {
				l = append(l, n)
			}
		}
		put := map[string]int{}
		for _, n := range l {
			s, e := Put(n, width)
			if e != api.OK {
				t.Fatalf("Put(%d, %d): %d", n, width, e)
			}
			if m, ok := put[s]; ok {
				t.Errorf("in width %d %d and %d are put alike: %q", width, m, n, s)
			}
			put[s] = n
		}
	}
}

// P2.4: what is got is put: each number has one spelling.
func TestGotIsPut(t *testing.T) {
	for a := range 256 {
		for b := range 256 {
			s := string([]byte{byte(a), byte(b)})
			n, e := Get(s, 0, 2)
			if n != a+256*b || e != api.OK {
				t.Fatalf("Get(%q, 0, 2): %d, %d", s, n, e)
			}
			if again, e := Put(n, 2); again != s || e != api.OK {
				t.Errorf("Put(%d, 2): %q, %d, want %q", n, again, e, s)
			}
		}
	}
}
