package edf

import (
	"slices"
	"testing"

	"trefoil/api"
)

// fitting is up to eight shapes by chance that fit.
func (c *chance) fitting() []api.Shape {
	for {
		if l := c.shapes(); Fits(l) {
			return l
		}
	}
}

// holdAt holds that at a time at which the demand isn't 0, it and what blocks are at most that, together.
func holdAt(t *testing.T, l []api.Shape, time int) {
	t.Helper()
	if got := told(t, l, time); got.demand != 0 && got.demand+got.block > time {
		t.Fatal(l, time, got)
	}
}

// holdAlways holds that of shapes that fit at times up to the second Horizon, and at such as are far behind it, up to the last ones there are.
func holdAlways(t *testing.T, l []api.Shape) {
	t.Helper()
	horizon := Horizon(l)
	for time := range 2*horizon + 2 {
		holdAt(t, l, time)
	}
	// where something is due the demand grows: it is greatest there
	for _, s := range l {
		for _, from := range []int{3, 5, 1000, 1001, 1 << 20, (1<<32 + 4096) / horizon, (1<<40 - 1) / horizon} {
			for time := (from-1)*horizon + s.Deadline; time <= min(from*horizon, api.MaxNum); time += max(s.Period, horizon/16) {
				holdAt(t, l, time)
			}
		}
	}
	for by := range 2 * horizon / 3 {
		holdAt(t, l, api.MaxNum-by)
	}
}

// P15.3: where shapes fit the demand and what blocks are at most the time together, at all times: behind the Horizon, and far behind it.
func TestAlways(t *testing.T) {
	for _, l := range [][]api.Shape{example(), times(1, light(1, 1, 1, 1)), times(8, light(1, 1, 8, 8)), times(2, light(2, 2, 4, 4)), times(8, light(512, 512, 4096, 4096)), row(light(4096, 4096, 4096, 4096))} {
		if !Fits(l) {
			t.Fatal(l)
		}
		holdAlways(t, l)
	}
	for _, a := range smalls(4) {
		for _, b := range smalls(8) {
			if l := row(a, b); Fits(l) {
				holdAlways(t, l)
			}
		}
	}
	c := chance(4)
	for range 60 {
		holdAlways(t, c.fitting())
	}
}

// P15.2, P15.3: all times up to four Horizons, tick by tick: where shapes fit none is too late, and where they don't one is, up to the first Horizon.
func TestAllTimes(t *testing.T) {
	c := chance(5)
	for range 400 {
		l := c.shapes()
		over := firstOver(l, 4*Horizon(l))
		if Fits(l) != (over == 0) || over > Horizon(l) {
			t.Fatal(l, over)
		}
	}
}

// P15.3: one light shape alone fits, whatever its numbers.
func TestOneAlone(t *testing.T) {
	hold := func(s api.Shape) {
		if l := row(s); Check(l) != api.OK || !Fits(l) {
			t.Fatal(s)
		}
	}
	for _, period := range periods[:7] {
		for deadline := 1; deadline <= period; deadline++ {
			for total := 1; total <= deadline; total++ {
				for _, most := range []int{1, (total + 1) / 2, total} {
					hold(light(total, most, deadline, period))
				}
			}
		}
	}
	for _, period := range periods {
		for _, deadline := range []int{1, (period + 1) / 2, max(1, period-1), period} {
			hold(light(deadline, deadline, deadline, period))
			hold(light(deadline, 1, deadline, period))
			hold(light(1, 1, deadline, period))
		}
	}
	c := chance(6)
	for range 1000 {
		hold(c.shape(1))
	}
}

// P15.3: of shapes that fit any fewer fit, too: each choice of them, none included.
func TestFewer(t *testing.T) {
	hold := func(l []api.Shape) {
		for choice := range 1 << len(l) {
			var fewer []api.Shape
			for i, s := range l {
				if choice>>i&1 == 1 {
					fewer = append(fewer, s)
				}
			}
			if !Fits(fewer) {
				t.Fatal(l, fewer)
			}
		}
	}
	hold(example())
	hold(times(8, light(1, 1, 8, 8)))
	// without the last one there is less to block, and the Horizon is nearer
	hold(row(light(1, 1, 2, 4), light(1, 1, 4, 8), light(1, 1, 4, 4), light(6, 1, 32, 32)))
	c := chance(7)
	for range 60 {
		hold(c.fitting())
	}
	small := smalls(4)
	for _, a := range small {
		for _, b := range small {
			for _, d := range small {
				if l := row(a, b, d); Fits(l) {
					hold(l)
				}
			}
		}
	}
}

// holdOrders holds that the same is told of shapes in another order.
func holdOrders(t *testing.T, l, other []api.Shape) {
	t.Helper()
	if Check(other) != Check(l) || Horizon(other) != Horizon(l) || Fits(other) != Fits(l) {
		t.Fatal(l, other)
	}
	for _, time := range []int{0, 1, l[0].Deadline - 1, l[0].Deadline, l[len(l)-1].Deadline, l[0].Deadline + l[0].Period, Horizon(l), 1 << 33, api.MaxNum} {
		if told(t, l, time) != told(t, other, time) {
			t.Fatal(l, other, time)
		}
	}
}

// P15.3: the same shapes in another order fit, or don't, as they do in this one: turned round, one moved on, and by chance.
func TestOrders(t *testing.T) {
	c := chance(8)
	kinds := map[bool]int{}
	for range 200 {
		l := c.shapes()
		kinds[Fits(l)]++
		other := slices.Clone(l)
		slices.Reverse(other)
		holdOrders(t, l, other)
		for range len(l) {
			other = append(other[1:], other[0])
			holdOrders(t, l, other)
		}
		for i := range other {
			k := c.next(i + 1)
			other[i], other[k] = other[k], other[i]
		}
		holdOrders(t, l, other)
	}
	if kinds[true] < 30 || kinds[false] < 30 {
		t.Error("too few of a kind", kinds)
	}
}
