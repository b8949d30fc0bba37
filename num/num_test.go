package num

import (
	"math/big"
	"slices"
	"testing"

	"trefoil/api"
)

// edges are numbers around each border that the chapter names, and wrong ones far beyond.
var edges = []int{
	api.MinInt, api.MinInt + 1, -api.MaxNum - 1, -api.MaxNum, -7, -2, -1,
	0, 1, 2, 3, 5, 7, 10, 1000,
	1<<20 - 1, 1 << 20, 1<<20 + 1, 1<<31 - 1, 1 << 31, 1<<32 - 1, 1 << 32,
	1<<39 - 1, 1 << 39, 1<<39 + 1, api.MaxNum - 1, api.MaxNum,
	api.MaxNum + 1, api.MaxNum + 2, 1 << 41, 1 << 62, api.MaxInt - 1, api.MaxInt,
}

// pairCalls are the calls of two numbers.
var pairCalls = []struct {
	name string
	call func(a, b int) (int, api.Errno)
}{
	{"Add", func(a, b int) (int, api.Errno) { return Add(a, b) }},
	{"Sub", Sub},
	{"Mul", Mul},
	{"Up", Up},
	{"Down", Down},
}

// P1.1: Check, within the limits, at them, and beyond.
func TestCheck(t *testing.T) {
	for _, x := range []struct {
		n    int
		want api.Errno
	}{
		{0, api.OK},
		{1, api.OK},
		{1 << 39, api.OK},
		{api.MaxNum - 1, api.OK},
		{api.MaxNum, api.OK},
		{api.MaxNum + 1, api.ErrNumGreat},
		{1 << 62, api.ErrNumGreat},
		{api.MaxInt, api.ErrNumGreat},
		{-1, api.ErrNumBelow},
		{-api.MaxNum - 1, api.ErrNumBelow},
		{api.MinInt, api.ErrNumBelow},
	} {
		if e := Check(x.n); e != x.want {
			t.Errorf("Check(%d): %d, want %d", x.n, e, x.want)
		}
	}
}

// P1.1: the first argument that may not be tells the error, whatever else is wrong.
func TestFirstFault(t *testing.T) {
	for _, x := range []struct {
		a, b int
		want api.Errno
	}{
		{-1, 5, api.ErrNumBelow},
		{5, -1, api.ErrNumBelow},
		{api.MaxNum + 1, 5, api.ErrNumGreat},
		{5, api.MaxNum + 1, api.ErrNumGreat},
		{-1, api.MaxNum + 1, api.ErrNumBelow},
		{api.MaxNum + 1, -1, api.ErrNumGreat},
		{api.MinInt, api.MaxInt, api.ErrNumBelow},
		{api.MaxInt, api.MinInt, api.ErrNumGreat},
		{-1, 0, api.ErrNumBelow},
		{api.MaxNum + 1, 0, api.ErrNumGreat},
		{0, api.MaxNum + 1, api.ErrNumGreat},
		{api.MaxNum, -1, api.ErrNumBelow},
	} {
		for _, p := range pairCalls {
			if n, e := p.call(x.a, x.b); n != 0 || e != x.want {
				t.Errorf("%s(%d, %d): %d, %d, want 0, %d", p.name, x.a, x.b, n, e, x.want)
			}
		}
	}
}

// P1.1, P1.2: any numbers are added, none at all included; wrong ones are told ahead of a sum that is too great.
func TestAdd(t *testing.T) {
	for _, x := range []struct {
		l    []int
		sum  int
		want api.Errno
	}{
		{nil, 0, api.OK},
		{[]int{}, 0, api.OK},
		{[]int{0}, 0, api.OK},
		{[]int{7}, 7, api.OK},
		{[]int{api.MaxNum}, api.MaxNum, api.OK},
		{[]int{0, 0, 0}, 0, api.OK},
		{[]int{7, 2}, 9, api.OK},
		{[]int{1, 2, 3, 4, 5}, 15, api.OK},
		{[]int{1 << 39, 1<<39 - 1}, api.MaxNum, api.OK},
		{[]int{1 << 39, 1<<39 - 2, 1}, api.MaxNum, api.OK},
		{[]int{1 << 39, 1 << 39}, 0, api.ErrNumGreat},
		{[]int{api.MaxNum, 1}, 0, api.ErrNumGreat},
		{[]int{1, api.MaxNum, 0}, 0, api.ErrNumGreat},
		{[]int{api.MaxNum, api.MaxNum, api.MaxNum}, 0, api.ErrNumGreat},
		{[]int{-1}, 0, api.ErrNumBelow},
		{[]int{api.MaxNum + 1}, 0, api.ErrNumGreat},
		{[]int{5, -1}, 0, api.ErrNumBelow},
		{[]int{1, 2, api.MaxNum + 1, -1}, 0, api.ErrNumGreat},
		{[]int{1, 2, -1, api.MaxNum + 1}, 0, api.ErrNumBelow},
		{[]int{api.MaxNum, api.MaxNum, -1}, 0, api.ErrNumBelow},
		{[]int{api.MaxInt, api.MinInt}, 0, api.ErrNumGreat},
	} {
		if sum, e := Add(x.l...); sum != x.sum || e != x.want {
			t.Errorf("Add(%v): %d, %d, want %d, %d", x.l, sum, e, x.sum, x.want)
		}
	}
}

// P1.4: so many numbers are added that their sum, in 64 bits, wraps round to one that may be.
func TestAddMany(t *testing.T) {
	l := slices.Repeat([]int{api.MaxNum}, 1<<24+1)
	if sum, e := Add(l...); sum != 0 || e != api.ErrNumGreat {
		t.Errorf("Add of %d times MaxNum: %d, %d", len(l), sum, e)
	}
	if sum, e := Add(l[:1<<23+1]...); sum != 0 || e != api.ErrNumGreat {
		t.Errorf("Add of %d times MaxNum: %d, %d", 1<<23+1, sum, e)
	}
	for i := range l {
		l[i] = 1
	}
	if sum, e := Add(l...); sum != len(l) || e != api.OK {
		t.Errorf("Add of %d times 1: %d, %d", len(l), sum, e)
	}
}

// Rules: what is handed in isn't changed, the spare room included.
func TestAddKeepsList(t *testing.T) {
	l := []int{4, 5, 6, 7, 8}
	if sum, e := Add(l[:3]...); sum != 15 || e != api.OK {
		t.Errorf("Add(4, 5, 6): %d, %d", sum, e)
	}
	if !slices.Equal(l, []int{4, 5, 6, 7, 8}) {
		t.Errorf("Add changed its list: %v", l)
	}
}

// P1.2: differences.
func TestSub(t *testing.T) {
	for _, x := range []struct {
		a, b, less int
		want       api.Errno
	}{
		{7, 2, 5, api.OK},
		{7, 0, 7, api.OK},
		{0, 0, 0, api.OK},
		{5, 5, 0, api.OK},
		{api.MaxNum, api.MaxNum, 0, api.OK},
		{api.MaxNum, 0, api.MaxNum, api.OK},
		{api.MaxNum, 1, api.MaxNum - 1, api.OK},
		{0, 1, 0, api.ErrNumBelow},
		{4, 5, 0, api.ErrNumBelow},
		{0, api.MaxNum, 0, api.ErrNumBelow},
	} {
		if n, e := Sub(x.a, x.b); n != x.less || e != x.want {
			t.Errorf("Sub(%d, %d): %d, %d, want %d, %d", x.a, x.b, n, e, x.less, x.want)
		}
	}
}

// P1.2: products; those whose low 64 bits alone would do are among them.
func TestMul(t *testing.T) {
	for _, x := range []struct {
		a, b, times int
		want        api.Errno
	}{
		{7, 2, 14, api.OK},
		{0, 0, 0, api.OK},
		{0, api.MaxNum, 0, api.OK},
		{api.MaxNum, 0, 0, api.OK},
		{1, api.MaxNum, api.MaxNum, api.OK},
		{api.MaxNum, 1, api.MaxNum, api.OK},
		{1 << 39, 1, 1 << 39, api.OK},
		{1<<20 - 1, 1<<20 + 1, api.MaxNum, api.OK},
		{1 << 19, 1 << 20, 1 << 39, api.OK},
		{1 << 20, 1 << 20, 0, api.ErrNumGreat},
		{1 << 39, 2, 0, api.ErrNumGreat},
		{2, 1 << 39, 0, api.ErrNumGreat},
		{1 << 32, 1 << 32, 0, api.ErrNumGreat},
		{1 << 39, 1 << 39, 0, api.ErrNumGreat},
		{1 << 32, 1<<32 + 1, 0, api.ErrNumGreat},
		{api.MaxNum, api.MaxNum, 0, api.ErrNumGreat},
	} {
		if n, e := Mul(x.a, x.b); n != x.times || e != x.want {
			t.Errorf("Mul(%d, %d): %d, %d, want %d, %d", x.a, x.b, n, e, x.times, x.want)
		}
	}
}

// P1.2: quotients, down and up; a divisor of 0 is told behind the arguments' own errors.
func TestDownUp(t *testing.T) {
	for _, x := range []struct {
		a, b, down, up int
		want           api.Errno
	}{
		{7, 2, 3, 4, api.OK},
		{6, 2, 3, 3, api.OK},
		{0, 5, 0, 0, api.OK},
		{1, 5, 0, 1, api.OK},
		{5, 5, 1, 1, api.OK},
		{6, 5, 1, 2, api.OK},
		{1, api.MaxNum, 0, 1, api.OK},
		{api.MaxNum, 1, api.MaxNum, api.MaxNum, api.OK},
		{api.MaxNum, 2, 1<<39 - 1, 1 << 39, api.OK},
		{api.MaxNum, api.MaxNum - 1, 1, 2, api.OK},
		{api.MaxNum, api.MaxNum, 1, 1, api.OK},
		{api.MaxNum - 1, api.MaxNum, 0, 1, api.OK},
		{0, 0, 0, 0, api.ErrNumZero},
		{7, 0, 0, 0, api.ErrNumZero},
		{api.MaxNum, 0, 0, 0, api.ErrNumZero},
		{-1, 0, 0, 0, api.ErrNumBelow},
		{api.MaxNum + 1, 0, 0, 0, api.ErrNumGreat},
	} {
		if n, e := Down(x.a, x.b); n != x.down || e != x.want {
			t.Errorf("Down(%d, %d): %d, %d, want %d, %d", x.a, x.b, n, e, x.down, x.want)
		}
		if n, e := Up(x.a, x.b); n != x.up || e != x.want {
			t.Errorf("Up(%d, %d): %d, %d, want %d, %d", x.a, x.b, n, e, x.up, x.want)
		}
	}
}

// P1.3: all powers of two up to 2^39, and their neighbours, which are none.
func TestTwoPowers(t *testing.T) {
	for k := range 40 {
		n := 1 << k
		if got, ok := Two(n); got != k || !ok {
			t.Errorf("Two(2^%d): %d, %t", k, got, ok)
		}
		if k < 2 {
			continue
		}
		for _, m := range []int{n - 1, n + 1} {
			if got, ok := Two(m); got != 0 || ok {
				t.Errorf("Two(%d): %d, %t", m, got, ok)
			}
		}
	}
}

// P1.3: what is no power of two, or one that is too great, or below 0.
func TestTwoNone(t *testing.T) {
	wrong := []int{0, 3, 6, 12, 1000, 4095, api.MaxNum, -1, -2, -4, -1 << 39, api.MinInt, api.MinInt + 1, api.MaxInt}
	for k := 40; k < 63; k++ {
		wrong = append(wrong, 1<<k)
	}
	for _, n := range wrong {
		if got, ok := Two(n); got != 0 || ok {
			t.Errorf("Two(%d): %d, %t", n, got, ok)
		}
	}
}

// wholeCheck is P1.1's Check, of whole numbers however great.
func wholeCheck(n *big.Int) api.Errno {
	if n.Sign() < 0 {
		return api.ErrNumBelow
	}
	if n.BitLen() > 40 {
		return api.ErrNumGreat
	}
	return api.OK
}

// whole is what a call of two numbers comes to, reckoned with whole numbers however great.
func whole(name string, a, b *big.Int) (int, api.Errno) {
	for _, n := range []*big.Int{a, b} {
		if e := wholeCheck(n); e != api.OK {
			return 0, e
		}
	}
	r := new(big.Int)
	switch name {
	case "Add":
		r.Add(a, b)
	case "Sub":
		r.Sub(a, b)
	case "Mul":
		r.Mul(a, b)
	default:
		if b.Sign() == 0 {
			return 0, api.ErrNumZero
		}
		if name == "Up" {
			r.Add(a, b)
			r.Sub(r, big.NewInt(1))
			r.Quo(r, b)
		} else {
			r.Quo(a, b)
		}
	}
	if e := wholeCheck(r); e != api.OK {
		return 0, e
	}
	return int(r.Int64()), api.OK
}

// P1.4: each call of two numbers, of all pairs of edges, is what whole numbers are.
func TestWhole(t *testing.T) {
	for _, a := range edges {
		for _, b := range edges {
			for _, p := range pairCalls {
				want, wantErr := whole(p.name, big.NewInt(int64(a)), big.NewInt(int64(b)))
				if n, e := p.call(a, b); n != want || e != wantErr {
					t.Errorf("%s(%d, %d): %d, %d, want %d, %d", p.name, a, b, n, e, want, wantErr)
				}
			}
		}
	}
}
