package edf

import (
	"slices"
	"testing"

	"trefoil/api"
)

// light is the shape of a task whose nodes wait for each other in one row.
func light(total, most, deadline, period int) api.Shape {
	return api.Shape{Total: total, Long: total, Most: most, Deadline: deadline, Period: period}
}

// row is a list of shapes.
func row(l ...api.Shape) []api.Shape { return l }

// times is a shape, so many times.
func times(n int, s api.Shape) []api.Shape { return slices.Repeat(row(s), n) }

// example is the chapter's.
func example() []api.Shape { return row(light(2, 2, 4, 4), light(4, 2, 8, 8)) }

// all is what is told of shapes in a time.
type all struct{ demand, block int }

// told is what Demand and Block tell, of shapes that may share a core.
func told(t *testing.T, l []api.Shape, time int) all {
	t.Helper()
	d, e := Demand(l, time)
	b, f := Block(l, time)
	if e != api.OK || f != api.OK {
		t.Fatal(l, time, int(e), int(f))
	}
	return all{d, b}
}

// P15.1, P15.2: the chapter's example, at all times up to the second Horizon.
func TestExample(t *testing.T) {
	l := example()
	if e := Check(l); e != api.OK || Horizon(l) != 8 || !Fits(l) {
		t.Error(int(e), Horizon(l), Fits(l))
	}
	for time, want := range []all{
		{0, 2}, {0, 2}, {0, 2}, {0, 2}, {2, 2}, {2, 2}, {2, 2}, {2, 2},
		{8, 0}, {8, 0}, {8, 0}, {8, 0}, {10, 0}, {10, 0}, {10, 0}, {10, 0}, {16, 0},
	} {
		if got := told(t, l, time); got != want {
			t.Error(time, got, want)
		}
	}
}

// P15.1: shapes that may share a core: none, one, several, as many as there may be; each number at its edges.
func TestCheck(t *testing.T) {
	for i, l := range [][]api.Shape{
		nil, {}, example(), times(1, light(1, 1, 1, 1)), times(8, light(1, 1, 1, 1)), times(8, light(4096, 4096, 4096, 4096)), times(8, light(4096, 1, 4096, 4096)), times(8, light(1, 1, 1, 4096)),
		row(light(8, 8, 8, 8), light(7, 1, 7, 8), light(1, 1, 8, 8)),
		// Long is anything from Most to Total
		row(api.Shape{Total: 7, Long: 3, Most: 3, Deadline: 7, Period: 8}, api.Shape{Total: 7, Long: 1, Most: 1, Deadline: 7, Period: 8}, api.Shape{Total: 7, Long: 7, Most: 3, Deadline: 8, Period: 8}),
		row(light(1, 1, 1, 1), light(1, 1, 1, 2), light(1, 1, 1, 4), light(1, 1, 1, 8), light(1, 1, 1, 16), light(1, 1, 1, 32), light(1, 1, 1, 64), light(1, 1, 1, 128)),
		row(light(1, 1, 1, 256), light(1, 1, 1, 512), light(1, 1, 1, 1024), light(1, 1, 1, 2048), light(1, 1, 1, 4096)),
	} {
		if e := Check(l); e != api.OK {
			t.Error(i, int(e))
		}
		holdWords(t, l)
	}
}

// P15.1: Demand by name: below a Deadline, at it, and behind it, in the first period and in later ones, of one shape and of several.
func TestDemand(t *testing.T) {
	one := row(light(3, 2, 5, 8))
	// of periods 4, 4, 8 and 16
	four := row(light(1, 1, 4, 4), light(2, 1, 3, 4), light(1, 1, 8, 8), light(5, 2, 6, 16))
	for i, x := range []struct {
		l          []api.Shape
		time, want int
	}{
		{nil, 0, 0}, {nil, 1, 0}, {nil, 4096, 0}, {nil, api.MaxNum, 0},
		{one, 0, 0}, {one, 1, 0}, {one, 4, 0}, {one, 5, 3}, {one, 6, 3}, {one, 7, 3}, {one, 8, 3}, {one, 9, 3}, {one, 12, 3}, {one, 13, 6}, {one, 14, 6}, {one, 16, 6}, {one, 20, 6}, {one, 21, 9}, {one, 84, 30}, {one, 85, 33}, {one, 86, 33},
		{one, 1<<32 - 4, 3 * (1<<29 - 1)}, {one, 1<<32 - 3, 3 << 29}, {one, 1 << 32, 3 << 29}, {one, 1<<32 + 4, 3 << 29}, {one, 1<<32 + 5, 3<<29 + 3},
		{one, api.MaxNum - 3, 3 * (1<<37 - 1)}, {one, api.MaxNum - 2, 3 << 37}, {one, api.MaxNum, 3 << 37},
		{row(light(1, 1, 1, 1)), 0, 0}, {row(light(1, 1, 1, 1)), 1, 1}, {row(light(1, 1, 1, 1)), 2, 2}, {row(light(1, 1, 1, 1)), 4097, 4097}, {row(light(1, 1, 1, 1)), api.MaxNum, api.MaxNum},
		{row(light(1, 1, 1, 4096)), 0, 0}, {row(light(1, 1, 1, 4096)), 1, 1}, {row(light(1, 1, 1, 4096)), 2, 1}, {row(light(1, 1, 1, 4096)), 4096, 1}, {row(light(1, 1, 1, 4096)), 4097, 2}, {row(light(1, 1, 1, 4096)), api.MaxNum, 1 << 28},
		{row(light(4096, 1, 4096, 4096)), 1, 0}, {row(light(4096, 1, 4096, 4096)), 4095, 0}, {row(light(4096, 1, 4096, 4096)), 4096, 4096}, {row(light(4096, 1, 4096, 4096)), 4097, 4096}, {row(light(4096, 1, 4096, 4096)), 8191, 4096}, {row(light(4096, 1, 4096, 4096)), 8192, 8192}, {row(light(4096, 1, 4096, 4096)), api.MaxNum, 1<<40 - 4096},
		{four, 0, 0}, {four, 2, 0}, {four, 3, 2}, {four, 4, 3}, {four, 5, 3}, {four, 6, 8}, {four, 7, 10}, {four, 8, 12}, {four, 11, 14}, {four, 12, 15}, {four, 15, 17}, {four, 16, 19}, {four, 22, 27}, {four, 32, 38},
		// the same two times over, as many as there may be, and more than MaxNum all together
		{times(2, light(3, 2, 5, 8)), 13, 12}, {times(8, light(3, 2, 5, 8)), 4, 0}, {times(8, light(3, 2, 5, 8)), 5, 24}, {times(8, light(3, 2, 5, 8)), 21, 72},
		{times(8, light(1, 1, 1, 1)), api.MaxNum, 8 * api.MaxNum}, {times(8, light(4096, 4096, 4096, 4096)), api.MaxNum, 8 * (1<<40 - 4096)}, {times(8, light(1, 1, 1, 4096)), 4097, 16},
		// Long doesn't count
		{row(api.Shape{Total: 7, Long: 3, Most: 2, Deadline: 7, Period: 8}), 7, 7}, {row(api.Shape{Total: 7, Long: 3, Most: 2, Deadline: 7, Period: 8}), 15, 14},
	} {
		if n, e := Demand(x.l, x.time); n != x.want || e != api.OK {
			t.Error(i, x.time, n, int(e))
		}
		holdWords(t, x.l)
	}
}

// P15.1: Block by name: below all Deadlines, between them, at each one, and behind all, whichever shape has the greatest Most.
func TestBlock(t *testing.T) {
	rising := row(light(2, 2, 4, 4), light(9, 3, 9, 16), light(1, 1, 16, 16))
	falling := row(light(16, 4, 16, 16), light(5, 5, 9, 16), light(2, 1, 4, 4))
	same := row(light(6, 2, 8, 8), light(7, 3, 8, 16), light(5, 1, 8, 32))
	for i, x := range []struct {
		l          []api.Shape
		time, want int
	}{
		{nil, 0, 0}, {nil, 1, 0}, {nil, api.MaxNum, 0},
		{rising, 0, 3}, {rising, 1, 3}, {rising, 3, 3}, {rising, 4, 3}, {rising, 5, 3}, {rising, 8, 3}, {rising, 9, 1}, {rising, 10, 1}, {rising, 15, 1}, {rising, 16, 0}, {rising, 17, 0}, {rising, 20, 0}, {rising, 4096, 0}, {rising, 1 << 32, 0}, {rising, api.MaxNum, 0},
		{falling, 0, 5}, {falling, 1, 5}, {falling, 4, 5}, {falling, 8, 5}, {falling, 9, 4}, {falling, 10, 4}, {falling, 15, 4}, {falling, 16, 0}, {falling, 25, 0}, {falling, api.MaxNum, 0},
		{same, 0, 3}, {same, 7, 3}, {same, 8, 0}, {same, 9, 0}, {same, 15, 0},
		{row(light(1, 1, 1, 1)), 0, 1}, {row(light(1, 1, 1, 1)), 1, 0}, {row(light(1, 1, 1, 1)), 2, 0}, {row(light(1, 1, 1, 4096)), 0, 1}, {row(light(1, 1, 1, 4096)), 1, 0}, {row(light(1, 1, 1, 4096)), 4096, 0},
		{row(light(4096, 4096, 4096, 4096)), 0, 4096}, {row(light(4096, 4096, 4096, 4096)), 1, 4096}, {row(light(4096, 4096, 4096, 4096)), 4095, 4096}, {row(light(4096, 4096, 4096, 4096)), 4096, 0}, {row(light(4096, 4096, 4096, 4096)), 4097, 0}, {row(light(4096, 1, 4096, 4096)), 4095, 1},
		// a Deadline below the Period: from it on nothing blocks, up to the Period as behind it
		{row(light(3, 2, 5, 8)), 4, 2}, {row(light(3, 2, 5, 8)), 5, 0}, {row(light(3, 2, 5, 8)), 6, 0}, {row(light(3, 2, 5, 8)), 8, 0}, {row(light(3, 2, 5, 8)), 9, 0},
		// Long and Total don't count
		{row(api.Shape{Total: 7, Long: 5, Most: 2, Deadline: 7, Period: 8}), 6, 2}, {row(api.Shape{Total: 7, Long: 5, Most: 2, Deadline: 7, Period: 8}, light(3, 3, 6, 8)), 5, 3}, {row(api.Shape{Total: 7, Long: 5, Most: 2, Deadline: 7, Period: 8}, light(3, 3, 6, 8)), 6, 2},
		{append(times(7, light(1, 1, 5, 8)), light(4, 4, 5, 8)), 4, 4}, {append(times(7, light(1, 1, 5, 8)), light(4, 4, 5, 8)), 5, 0}, {append(times(7, light(4, 4, 5, 8)), light(1, 1, 6, 8)), 5, 1},
	} {
		if n, e := Block(x.l, x.time); n != x.want || e != api.OK {
			t.Error(i, x.time, n, int(e))
		}
		holdWords(t, x.l)
	}
}

// P15.1: the greatest Period, wherever it stands, and whatever else is greatest where.
func TestHorizon(t *testing.T) {
	a, b, c := light(1, 1, 1, 16), light(3, 3, 8, 8), light(2, 1, 4, 4)
	for i, x := range []struct {
		l    []api.Shape
		want int
	}{
		{nil, 0}, {row(), 0}, {row(light(1, 1, 1, 1)), 1}, {row(light(1, 1, 1, 4096)), 4096}, {row(light(4096, 1, 4096, 4096)), 4096}, {row(light(1, 1, 1, 2)), 2},
		{row(a, b, c), 16}, {row(a, c, b), 16}, {row(b, a, c), 16}, {row(c, a, b), 16}, {row(b, c, a), 16}, {row(c, b, a), 16}, {row(b, c), 8}, {row(c, b), 8}, {row(c), 4},
		{times(8, b), 8}, {append(times(7, c), a), 16}, {append(row(a), times(7, c)...), 16}, {append(times(7, light(1, 1, 1, 1)), light(1, 1, 1, 4096)), 4096},
		// of shapes that may share a core, but don't fit, too
		{row(light(4, 4, 4, 4), light(8, 8, 8, 8)), 8},
	} {
		if n := Horizon(x.l); n != x.want {
			t.Error(i, n)
		}
		holdWords(t, x.l)
	}
}
