package edf

import (
	"math"
	"slices"
	"testing"

	"trefoil/api"
)

// faults are shapes that may not share a core with any: each of chapter 14's bounds gone over, just so and far off; and heavy ones.
func faults() []api.Shape {
	l := row(
		api.Shape{}, light(0, 0, 4, 8), light(-1, -1, 4, 8), light(0, 1, 4, 8), light(4097, 1, 4096, 4096), light(math.MinInt, 1, 4, 8), light(math.MaxInt, 1, 4, 8), light(1<<32+2, 1, 4, 8), light(-1<<32+2, 1, 4, 8),
		api.Shape{Total: 0, Long: 1, Most: 1, Deadline: 4, Period: 8},
		api.Shape{Total: 3, Long: 0, Most: 0, Deadline: 4, Period: 8}, api.Shape{Total: 3, Long: 0, Most: 1, Deadline: 4, Period: 8}, api.Shape{Total: 3, Long: -2, Most: -2, Deadline: 4, Period: 8}, api.Shape{Total: 3, Long: 4, Most: 1, Deadline: 4, Period: 8}, api.Shape{Total: 3, Long: 4, Most: 4, Deadline: 4, Period: 8}, api.Shape{Total: 3, Long: math.MaxInt, Most: 1, Deadline: 4, Period: 8}, api.Shape{Total: 3, Long: 1<<32 + 2, Most: 1, Deadline: 4, Period: 8},
		api.Shape{Total: 3, Long: 2, Most: 0, Deadline: 4, Period: 8}, api.Shape{Total: 3, Long: 2, Most: -1, Deadline: 4, Period: 8}, api.Shape{Total: 3, Long: 2, Most: 3, Deadline: 4, Period: 8}, api.Shape{Total: 3, Long: 2, Most: 4, Deadline: 4, Period: 8}, api.Shape{Total: 3, Long: 2, Most: math.MinInt, Deadline: 4, Period: 8}, api.Shape{Total: 3, Long: 2, Most: 1<<32 + 1, Deadline: 4, Period: 8},
		light(1, 1, 0, 8), light(1, 1, -1, 8), light(1, 1, 9, 8), light(1, 1, 2, 1), light(1, 1, 4097, 4096), light(1, 1, math.MaxInt, 8), light(1, 1, math.MinInt, 8), light(1, 1, 1<<32+4, 8),
		light(1, 1, 1, 0), light(1, 1, 0, 0), light(1, 1, 1, -1), light(1, 1, 1, -8), light(1, 1, 1, 3), light(1, 1, 1, 12), light(1, 1, 4, 6), light(1, 1, 1, 4095), light(1, 1, 1, 4097), light(1, 1, 1, 8192), light(1, 1, 8192, 8192), light(1, 1, 1, 1<<32), light(1, 1, 1, 1<<32+8), light(1, 1, 1, math.MinInt), light(1, 1, 1, math.MaxInt),
	)
	// heavy ones: Total one more than Deadline, far above it, and above the Period
	return append(l, light(5, 1, 4, 8), light(8, 1, 4, 8), light(2, 1, 1, 1), light(2, 1, 1, 4096), light(9, 1, 8, 8), light(4096, 1, 4095, 4096), light(4096, 4096, 1, 1), api.Shape{Total: 20, Long: 4, Most: 4, Deadline: 8, Period: 8})
}

// holdNone holds that of shapes that may not share a core just that is told, at times that may be and at such as may not.
func holdNone(t *testing.T, l []api.Shape) {
	t.Helper()
	if e := Check(l); e != api.ErrEdfForm || Horizon(l) != 0 || Fits(l) {
		t.Fatal(l, int(e), Horizon(l), Fits(l))
	}
	for _, time := range append([]int{0, 1, 3, 4, 8, 4096, api.MaxNum}, wrongTimes...) {
		n, e := Demand(l, time)
		m, f := Block(l, time)
		if n != 0 || m != 0 || e != api.ErrEdfForm || f != api.ErrEdfForm {
			t.Fatal(l, time, n, m, int(e), int(f))
		}
	}
}

// P15.1, P15.2, P1: one shape that may not share a core, alone, and first, in the middle, and last among such as fit.
func TestWrongShapes(t *testing.T) {
	fit := row(light(1, 1, 8, 8), light(1, 1, 16, 16), light(2, 1, 32, 64))
	if !Fits(fit) {
		t.Fatal("they don't fit")
	}
	for _, s := range faults() {
		if mayBeLight(s) {
			t.Fatal(s)
		}
		holdNone(t, row(s))
		holdNone(t, row(s, s))
		holdNone(t, times(8, s))
		for at := range len(fit) + 1 {
			holdNone(t, slices.Insert(slices.Clone(fit), at, s))
			holdNone(t, slices.Insert(times(7, light(1, 1, 64, 64)), 2*at+1, s))
		}
		holdNone(t, append(times(8, light(1, 1, 64, 64)), s))
	}
}

// P15.1, P15.2, P1: as many shapes as there may be, one more, and far more.
func TestMany(t *testing.T) {
	s := light(1, 1, 64, 64)
	for n := range 9 {
		l := times(n, s)
		if e := Check(l); e != api.OK || !Fits(l) || n > 0 && Horizon(l) != 64 {
			t.Error(n, int(e), Fits(l), Horizon(l))
		}
		holdWords(t, l)
	}
	for _, n := range []int{9, 10, 16, 64, 256, 257, 264, 1 << 16, 1 << 20} {
		holdNone(t, times(n, s))
	}
	holdNone(t, make([]api.Shape, 9))
	holdNone(t, make([]api.Shape, 1<<20))
}

// P15.1, P1: times that may not be, of none, one, and several shapes: just the error is told, of such as fit and of such as don't; the least and the greatest time may be.
func TestWrongTimes(t *testing.T) {
	for i, l := range [][]api.Shape{nil, {}, row(light(1, 1, 1, 1)), example(), times(2, light(4, 4, 4, 4)), times(8, light(4096, 4096, 4096, 4096)), times(8, light(1, 1, 1, 1))} {
		for _, time := range wrongTimes {
			n, e := Demand(l, time)
			m, f := Block(l, time)
			if n != 0 || m != 0 || e != api.ErrEdfTime || f != api.ErrEdfTime {
				t.Error(i, time, n, m, int(e), int(f))
			}
		}
		for _, time := range []int{0, 1, 1 << 31, 1 << 32, 1<<40 - 2, 1<<40 - 1} {
			if got := told(t, l, time); got != (all{demandByWords(l, time), blockByWords(l, time)}) {
				t.Error(i, time, got)
			}
		}
	}
}

// P15.1, P1: where the shapes may not share a core, and the time may not be, the shapes' error is told.
func TestFirstError(t *testing.T) {
	for i, l := range [][]api.Shape{row(light(5, 1, 4, 8)), row(api.Shape{}), times(9, light(1, 1, 64, 64)), append(example(), light(2, 1, 1, 1))} {
		for _, time := range []int{-1, api.MaxNum + 1, math.MinInt, math.MaxInt} {
			n, e := Demand(l, time)
			m, f := Block(l, time)
			if n != 0 || m != 0 || e != api.ErrEdfForm || f != api.ErrEdfForm {
				t.Error(i, time, n, m, int(e), int(f))
			}
		}
	}
}

// holdLeft holds that shapes are left as they were, the room behind them included, and that the same is told of them again.
func holdLeft(t *testing.T, was []api.Shape) {
	t.Helper()
	mark := api.Shape{Total: 77}
	whole := append(slices.Clone(was), mark, mark, mark)
	kept := slices.Clone(whole)
	l := whole[:len(was)]
	for _, time := range []int{0, 4, 4096, api.MaxNum, -1} {
		d, e := Demand(l, time)
		b, f := Block(l, time)
		check, horizon, fits := Check(l), Horizon(l), Fits(l)
		if again, why := Demand(l, time); again != d || why != e {
			t.Fatal("Demand", was, time)
		}
		if again, why := Block(l, time); again != b || why != f {
			t.Fatal("Block", was, time)
		}
		if Check(l) != check || Horizon(l) != horizon || Fits(l) != fits {
			t.Fatal("Check, Horizon, Fits", was)
		}
		if !slices.Equal(whole, kept) {
			t.Fatal(was, whole)
		}
	}
}

// P15.1, P15.2: what is handed over is left as it was, whether it fits, doesn't, or may not share a core.
func TestLeftAlone(t *testing.T) {
	holdLeft(t, nil)
	holdLeft(t, example())
	holdLeft(t, times(9, light(1, 1, 64, 64)))
	for _, s := range faults() {
		holdLeft(t, row(light(3, 1, 8, 8), s, light(1, 1, 4, 4)))
	}
	c := chance(3)
	for range 50 {
		holdLeft(t, c.shapes())
	}
}
