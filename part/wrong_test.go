package part

import (
	"math"
	"slices"
	"testing"

	"trefoil/api"
	"trefoil/edf"
)

// faults are shapes that may not share a core with any: each of chapter 14's bounds gone over, just so and far off; and heavy ones.
func faults() []api.Shape {
	return row(
		api.Shape{}, light(0, 0, 4, 8), light(-1, -1, 4, 8), light(0, 1, 4, 8), light(4097, 1, 4096, 4096), light(math.MinInt, 1, 4, 8), light(math.MaxInt, 1, 4, 8), light(1<<32+2, 1, 4, 8),
		api.Shape{Total: 3, Long: 0, Most: 0, Deadline: 4, Period: 8}, api.Shape{Total: 3, Long: -2, Most: -2, Deadline: 4, Period: 8}, api.Shape{Total: 3, Long: 4, Most: 1, Deadline: 4, Period: 8}, api.Shape{Total: 3, Long: math.MaxInt, Most: 1, Deadline: 4, Period: 8},
		api.Shape{Total: 3, Long: 2, Most: 0, Deadline: 4, Period: 8}, api.Shape{Total: 3, Long: 2, Most: -1, Deadline: 4, Period: 8}, api.Shape{Total: 3, Long: 2, Most: 3, Deadline: 4, Period: 8},
		light(1, 1, 0, 8), light(1, 1, -1, 8), light(1, 1, 9, 8), light(1, 1, 4097, 4096), light(1, 1, math.MaxInt, 8), light(1, 1, 1<<32+4, 8),
		light(1, 1, 1, 0), light(1, 1, 0, 0), light(1, 1, 1, -1), light(1, 1, 1, 3), light(1, 1, 1, 4095), light(1, 1, 1, 8192), light(1, 1, 1, 1<<32+8), light(1, 1, 1, math.MaxInt),
		// heavy ones
		light(5, 1, 4, 8), light(8, 1, 4, 8), light(2, 1, 1, 1), light(4096, 1, 4095, 4096), api.Shape{Total: 20, Long: 4, Most: 4, Deadline: 8, Period: 8},
	)
}

// holdNone holds that of shapes that may not share a core none are placed, on however many cores, and that this error is told on wrong numbers of cores too.
func holdNone(t *testing.T, l []api.Shape) {
	t.Helper()
	if edf.Check(l) == api.OK {
		t.Fatal(l)
	}
	for _, cores := range append([]int{0, 1, 2, 7, 8}, wrongCores...) {
		if at, e := Place(l, cores); len(at) != 0 || e != api.ErrPartForm {
			t.Fatal(l, cores, at, int(e))
		}
	}
}

// P16.2, P1: one shape that may not share a core, alone, and first, in the middle, and last among such as may: it is the error, though there is no room either.
func TestWrongShapes(t *testing.T) {
	fit := totals(4, 4, 3, 2, 1)
	for _, s := range faults() {
		holdNone(t, row(s))
		holdNone(t, times(2, s))
		holdNone(t, times(8, s))
		for at := range len(fit) + 1 {
			holdNone(t, slices.Insert(slices.Clone(fit), at, s))
		}
	}
}

// P16.3, P1: a shape that may not share a core is right nowhere, alone on its core, or with others, on whichever core.
func TestRightOfWrongShapes(t *testing.T) {
	for _, s := range faults() {
		for core := range 8 {
			if Right(row(s), []int{core}, 8) || Right(row(light(1, 1, 64, 64), s), []int{0, core}, 8) || Right(row(s, light(1, 1, 64, 64)), []int{core, 7}, 8) {
				t.Fatal(s, core)
			}
		}
		l := row(light(1, 1, 64, 64), s, light(2, 1, 8, 16))
		holdOn(t, l, []int{0, 1, 2})
		holdOn(t, l, []int{1, 1, 1})
		if order := Order(l); !slices.Equal(order, orderByWords(l)) {
			t.Fatal(l, order)
		}
	}
}

// P16.2, P1: as many shapes as there may be, one more, and far more.
func TestMany(t *testing.T) {
	s := light(1, 1, 64, 64)
	for n := range 9 {
		at, e := Place(times(n, s), 8)
		if !slices.Equal(at, make([]int, n)) || e != api.OK {
			t.Error(n, at, int(e))
		}
	}
	for _, n := range []int{9, 10, 16, 64, 256, 257, 264, 1 << 16} {
		holdNone(t, times(n, s))
	}
	holdNone(t, make([]api.Shape, 9))
}

// P16.2, P16.3, P1: numbers of which there may not be so many cores, of shapes that would fit, of none, and of such as don't fit together.
func TestWrongCores(t *testing.T) {
	for i, l := range [][]api.Shape{nil, {}, example(), totals(1, 1), totals(4, 4, 4, 4), times(8, light(1, 1, 64, 64)), times(8, light(4096, 4096, 4096, 4096))} {
		for _, cores := range wrongCores {
			if at, e := Place(l, cores); len(at) != 0 || e != api.ErrPartForm {
				t.Error(i, cores, at, int(e))
			}
			spread := []int{0, 1, 2, 3, 4, 5, 6, 7}[:len(l)]
			if Right(l, spread, cores) || Right(l, make([]int, len(l)), cores) {
				t.Error(i, cores)
			}
		}
	}
}

// P16.3, P1: a list of cores of another length than the shapes, whatever is missing or left over; of shapes that would fit all together.
func TestLengths(t *testing.T) {
	l := totals(64, 1, 1, 1, 1)
	if !Right(l, []int{0, 0, 1, 1}, 2) {
		t.Fatal("they don't fit")
	}
	for _, n := range []int{0, 1, 2, 3, 5, 6, 8, 9, 256, 260, 1 << 16} {
		for core := range 2 {
			for _, cores := range []int{core + 1, 8} {
				if Right(l, slices.Repeat([]int{core}, n), cores) {
					t.Error(n, core, cores)
				}
			}
		}
	}
	for _, n := range []int{1, 2, 8, 9} {
		if Right(nil, make([]int, n), 8) || Right(times(n, l[0]), nil, 8) || Right(nil, make([]int, n), 0) {
			t.Error(n)
		}
	}
}

// P16.3, P1: one number that is no core, or one behind the last, at each place among such as are.
func TestWrongAt(t *testing.T) {
	l := totals(64, 1, 1, 1, 1)
	for cores := 1; cores <= 8; cores++ {
		wrong := append([]int{-1, -2, -8, cores, cores + 1, cores - 9, cores + 1<<32, cores - 1 + 1<<32, 1 << 32, -1 << 32, 255, 256, math.MinInt32}, wrongCores[len(wrongCores)-4:]...)
		for place := range l {
			for _, core := range wrong {
				at := []int{0, cores - 1, cores / 2, 0}
				if !Right(l, at, cores) {
					t.Fatal(at, cores)
				}
				at[place] = core
				if Right(l, at, cores) {
					t.Error(at, cores)
				}
				holdOn(t, l, at)
			}
		}
	}
}

// holdLeft holds that what is handed over is left as it was, the room behind it included, that the same is told of it again, and that what is told is new.
func holdLeft(t *testing.T, shapes []api.Shape, cores []int, n int) {
	t.Helper()
	mark := api.Shape{Total: 77}
	whole, wholeAt := append(slices.Clone(shapes), mark, mark, mark), append(slices.Clone(cores), 77, 77, 77)
	kept, keptAt := slices.Clone(whole), slices.Clone(wholeAt)
	l, at := whole[:len(shapes)], wholeAt[:len(cores)]
	for range 2 {
		order, on, right := Order(l), On(l, at, n-1), Right(l, at, n)
		placed, e := Place(l, n)
		if !slices.Equal(order, orderByWords(shapes)) || !slices.Equal(on, onByWords(shapes, cores, n-1)) || right != rightByWords(shapes, cores, n) {
			t.Fatal("Order, On, Right", l, at, n)
		}
		if want, why := placeByWords(shapes, n); !slices.Equal(placed, want) || e != why {
			t.Fatal("Place", l, at, n)
		}
		// what is told is written over, and the room behind it
		for _, told := range [][]int{order[:cap(order)], placed[:cap(placed)]} {
			for i := range told {
				told[i] = 99
			}
		}
		on = on[:cap(on)]
		for i := range on {
			on[i] = mark
		}
		if !slices.Equal(whole, kept) || !slices.Equal(wholeAt, keptAt) {
			t.Fatal(l, at, n)
		}
	}
}

// P16.1, P16.2, P16.3: what is handed over is left as it was, whether it fits, doesn't, or may not be.
func TestLeftAlone(t *testing.T) {
	holdLeft(t, nil, nil, 0)
	holdLeft(t, nil, []int{1}, 2)
	holdLeft(t, example(), []int{1, 0, 1}, 2)
	holdLeft(t, example(), []int{0, 0, 0}, 1)
	holdLeft(t, example(), []int{0, 0}, 9)
	holdLeft(t, times(9, light(1, 1, 64, 64)), make([]int, 9), 1)
	for _, s := range faults() {
		holdLeft(t, row(light(3, 1, 8, 8), s, light(1, 1, 4, 4)), []int{0, 1, 1}, 2)
	}
	c := chance(3)
	for range 200 {
		l, cores := c.shapes(), 1+c.next(8)
		at := make([]int, len(l))
		for i := range at {
			at[i] = c.next(cores)
		}
		holdLeft(t, l, at, cores)
	}
}
