package part

import (
	"math"
	"slices"
	"testing"

	"trefoil/api"
)

// light is the shape of a task whose nodes wait for each other in one row.
func light(total, most, deadline, period int) api.Shape {
	return api.Shape{Total: total, Long: total, Most: most, Deadline: deadline, Period: period}
}

// row is a list of shapes.
func row(l ...api.Shape) []api.Shape { return l }

// times is a shape, so many times.
func times(n int, s api.Shape) []api.Shape { return slices.Repeat(row(s), n) }

// totals is shapes of these totals, in nodes of 1, of one deadline, which is the period.
func totals(period int, all ...int) []api.Shape {
	var l []api.Shape
	for _, total := range all {
		l = append(l, light(total, 1, period, period))
	}
	return l
}

// example is the chapter's.
func example() []api.Shape { return totals(4, 2, 3, 2) }

// P16.1, P16.2, P16.3: the chapter's example, whole.
func TestExample(t *testing.T) {
	l := example()
	if order := Order(l); !slices.Equal(order, []int{1, 0, 2}) {
		t.Error(order)
	}
	at, e := Place(l, 2)
	if !slices.Equal(at, []int{1, 0, 1}) || e != api.OK {
		t.Fatal(at, int(e))
	}
	if on := On(l, at, 0); !slices.Equal(on, row(l[1])) {
		t.Error(on)
	}
	if on := On(l, at, 1); !slices.Equal(on, row(l[0], l[2])) {
		t.Error(on)
	}
	if !Right(l, at, 2) || Right(l, at, 1) {
		t.Error(Right(l, at, 2), Right(l, at, 1))
	}
	if at, e := Place(l, 1); len(at) != 0 || e != api.ErrPartFull {
		t.Error(at, int(e))
	}
	holdWords(t, l)
}

// P16.1: Order by name: of none, of one, by Total alone, and of the same Total by place, whatever the other numbers are, and whether the shapes may be or not.
func TestOrder(t *testing.T) {
	for i, x := range []struct {
		l    []api.Shape
		want []int
	}{
		{nil, nil}, {row(), nil}, {row(light(3, 1, 4, 4)), []int{0}}, {row(api.Shape{}), []int{0}},
		{totals(8, 1, 2), []int{1, 0}}, {totals(8, 2, 1), []int{0, 1}}, {totals(8, 2, 2), []int{0, 1}},
		{totals(8, 1, 2, 3, 4), []int{3, 2, 1, 0}}, {totals(8, 4, 3, 2, 1), []int{0, 1, 2, 3}}, {totals(8, 2, 4, 1, 3), []int{1, 3, 0, 2}}, {totals(8, 3, 1, 4, 2), []int{2, 0, 3, 1}},
		{totals(8, 5, 5, 5, 5, 5), []int{0, 1, 2, 3, 4}}, {totals(8, 1, 2, 1, 2, 1, 2, 1, 2), []int{1, 3, 5, 7, 0, 2, 4, 6}}, {totals(8, 2, 1, 2, 3, 1, 3, 2, 1), []int{3, 5, 0, 2, 6, 1, 4, 7}},
		// no other number counts
		{row(api.Shape{Total: 2, Long: 2, Most: 2, Deadline: 2, Period: 2}, api.Shape{Total: 3, Long: 1, Most: 1, Deadline: 8, Period: 8}), []int{1, 0}},
		{row(api.Shape{Total: 2, Long: 1, Most: 1, Deadline: 8, Period: 16}, api.Shape{Total: 2, Long: 2, Most: 2, Deadline: 2, Period: 2}, api.Shape{Total: 2, Long: 2, Most: 1, Deadline: 4, Period: 32}), []int{0, 1, 2}},
		{row(light(2, 2, 2, 2), light(2, 1, 8, 16), light(2, 1, 4, 4)), []int{0, 1, 2}},
		// shapes that may not be, too
		{make([]api.Shape, 10), []int{0, 1, 2, 3, 4, 5, 6, 7, 8, 9}}, {totals(4, -1, 0, 1), []int{2, 1, 0}}, {totals(4, 9, 5000, 7), []int{1, 0, 2}},
		{totals(4, 0, math.MinInt, math.MaxInt, -1, 1), []int{2, 4, 0, 3, 1}}, {totals(4, math.MinInt, math.MaxInt, math.MinInt, math.MaxInt), []int{1, 3, 0, 2}}, {totals(4, 1, 1<<32, -1<<32, 0, 1<<32+1), []int{4, 1, 0, 3, 2}},
	} {
		if order := Order(x.l); !slices.Equal(order, x.want) || !slices.Equal(orderByWords(x.l), x.want) {
			t.Error(i, order, x.want)
		}
	}
}

// P16.1: the order of far more shapes than may share a core, of few totals and of many.
func TestOrderOfMany(t *testing.T) {
	c := chance(1)
	for _, below := range []int{1, 2, 5, 4096} {
		l := make([]api.Shape, 1000)
		for i := range l {
			l[i] = light(c.next(below), 1, 4, 4)
		}
		if !slices.Equal(Order(l), orderByWords(l)) {
			t.Error(below)
		}
	}
}

// P16.1: On by name: in order, on a core that nothing is on, on the last one, at longer than the shapes, and shorter; of numbers that are no cores, and of shapes that may not be, too.
func TestOn(t *testing.T) {
	l := row(light(1, 1, 4, 4), light(3, 2, 4, 8), light(2, 1, 2, 2), light(3, 2, 4, 8))
	for i, x := range []struct {
		at   []int
		core int
		want []api.Shape
	}{
		{[]int{0, 0, 0, 0}, 0, l}, {[]int{0, 0, 0, 0}, 1, nil}, {[]int{0, 0, 0, 0}, -1, nil}, {[]int{7, 7, 7, 7}, 7, l}, {[]int{7, 7, 7, 7}, 0, nil},
		{[]int{1, 0, 1, 0}, 0, row(l[1], l[3])}, {[]int{1, 0, 1, 0}, 1, row(l[0], l[2])}, {[]int{1, 0, 1, 0}, 2, nil},
		{[]int{0, 1, 2, 3}, 0, l[:1]}, {[]int{0, 1, 2, 3}, 1, l[1:2]}, {[]int{0, 1, 2, 3}, 2, l[2:3]}, {[]int{0, 1, 2, 3}, 3, l[3:]}, {[]int{7, 3, 1, 7}, 7, row(l[0], l[3])},
		// shorter
		{nil, 0, nil}, {[]int{}, 0, nil}, {[]int{0}, 0, l[:1]}, {[]int{1}, 0, nil}, {[]int{2, 5, 2}, 2, row(l[0], l[2])}, {[]int{2, 5, 2}, 0, nil},
		// longer
		{[]int{4, 4, 4, 4, 4}, 4, l}, {[]int{0, 1, 1, 1, 0, 0, 0}, 0, l[:1]}, {[]int{1, 1, 1, 1, 0}, 0, nil}, {slices.Repeat([]int{3}, 1000), 3, l},
		// numbers that are no cores
		{[]int{-1, 0, -1, 0}, -1, row(l[0], l[2])}, {[]int{8, 9, 8, 0}, 8, row(l[0], l[2])}, {[]int{math.MaxInt, math.MinInt, -1, 0}, math.MinInt, l[1:2]}, {[]int{math.MaxInt, math.MinInt, -1, 0}, math.MaxInt, l[:1]}, {[]int{1 << 32, -1 << 32, 0, 256}, 0, l[2:3]}, {[]int{0, 0, 0, 256}, 1 << 32, nil},
	} {
		if on := On(l, x.at, x.core); !slices.Equal(on, x.want) {
			t.Error(i, on, x.want)
		}
		holdOn(t, l, x.at)
	}
	if len(On(nil, nil, 0)) != 0 || len(On(nil, []int{0, 0}, 0)) != 0 || len(On(row(), []int{}, 0)) != 0 {
		t.Error("there is something of none")
	}
	wrong := row(api.Shape{}, light(9, 1, 4, 4), light(-1, -1, -1, -1))
	if on := On(wrong, []int{0, 1, 1}, 1); !slices.Equal(on, wrong[1:]) {
		t.Error(on)
	}
	many := times(100, light(1, 1, 4, 4))
	if on := On(many, make([]int, 100), 0); !slices.Equal(on, many) {
		t.Error(len(on))
	}
}

// P16.2: Place by name: -1 is where there is no room for all.
func TestPlace(t *testing.T) {
	full := []int{-1}
	for i, x := range []struct {
		l     []api.Shape
		cores int
		want  []int
	}{
		{nil, 0, nil}, {row(), 0, nil}, {nil, 1, nil}, {nil, 8, nil},
		{totals(4, 1), 0, full}, {totals(4, 1), 1, []int{0}}, {totals(4, 4), 1, []int{0}}, {totals(4, 1), 8, []int{0}}, {totals(4, 1, 1), 0, full}, {times(8, light(1, 1, 8, 8)), 0, full},
		// on one core all together, and one tick more
		{totals(8, 4, 3, 1), 1, []int{0, 0, 0}}, {totals(8, 4, 3, 1), 8, []int{0, 0, 0}}, {totals(8, 4, 3, 2), 1, full}, {totals(8, 4, 3, 2), 2, []int{0, 0, 1}}, {totals(8, 5, 3, 1), 1, full}, {totals(8, 5, 3, 1), 2, []int{0, 0, 1}}, {totals(8, 1, 3, 5), 2, []int{1, 0, 0}},
		{totals(8, 1, 1, 1, 1, 1, 1, 1, 1), 1, []int{0, 0, 0, 0, 0, 0, 0, 0}}, {totals(8, 1, 1, 1, 1, 2, 1, 1, 1), 1, full}, {totals(8, 1, 1, 1, 1, 2, 1, 1, 1), 2, []int{0, 0, 0, 0, 0, 0, 0, 1}}, {totals(8, 2, 2, 2, 2, 1, 1, 1, 1), 2, []int{0, 0, 0, 0, 1, 1, 1, 1}},
		// on a later one only, and those behind on an earlier one again
		{totals(8, 5, 4, 3), 1, full}, {totals(8, 5, 4, 3), 2, []int{0, 1, 0}}, {totals(8, 4, 5, 3), 2, []int{1, 0, 0}}, {totals(8, 3, 4, 5), 3, []int{0, 1, 0}}, {totals(8, 6, 5, 4, 3, 2), 3, []int{0, 1, 2, 1, 0}}, {totals(8, 2, 3, 4, 5, 6), 3, []int{0, 1, 2, 1, 0}}, {totals(8, 6, 5, 4, 3, 2), 2, full}, {totals(16, 9, 8, 7, 6, 2, 1), 3, []int{0, 1, 0, 1, 1, 2}}, {totals(16, 9, 8, 7, 6, 2, 1), 2, full},
		// on the first one, not as full as may be: 6, 5 and 5 would fit twice
		{totals(8, 4, 3, 3, 2, 4), 2, []int{0, 1, 1, 1, 0}}, {totals(16, 6, 6, 5, 5, 5, 5), 2, full}, {totals(16, 6, 6, 5, 5, 5, 5), 3, []int{0, 0, 1, 1, 1, 2}}, {totals(16, 6, 5, 5, 4, 4, 4, 4), 2, []int{0, 0, 0, 1, 1, 1, 1}}, {totals(16, 8, 3, 6, 5), 2, []int{0, 1, 0, 1}},
		// by Total, not by how much of the period it is: 4 of 16 goes ahead of 3 of 4
		{row(light(3, 1, 4, 4), light(4, 1, 16, 16)), 2, []int{0, 0}}, {row(light(3, 1, 4, 4), light(5, 1, 16, 16)), 2, []int{1, 0}}, {row(light(5, 1, 16, 16), light(3, 1, 4, 4)), 2, []int{0, 1}}, {row(light(3, 1, 4, 4), light(2, 1, 4, 4), light(5, 1, 16, 16)), 2, []int{1, 0, 0}},
		// what blocks: a node of 2, and of 3, beside 2 of 4
		{row(light(2, 2, 4, 4), light(4, 2, 8, 8)), 1, []int{0, 0}}, {row(light(2, 2, 4, 4), light(4, 3, 8, 8)), 1, full}, {row(light(2, 2, 4, 4), light(4, 3, 8, 8)), 2, []int{1, 0}}, {row(light(2, 2, 4, 4), light(4, 3, 8, 8), light(2, 1, 8, 8)), 2, []int{1, 0, 0}},
		// deadlines below the periods
		{times(2, light(2, 1, 2, 8)), 1, full}, {times(2, light(2, 1, 2, 8)), 2, []int{0, 1}}, {row(light(2, 1, 3, 8), light(2, 1, 5, 8), light(2, 1, 7, 8), light(2, 1, 8, 8)), 1, []int{0, 0, 0, 0}}, {row(light(2, 1, 8, 8), light(2, 1, 7, 8), light(2, 1, 5, 8), light(3, 1, 3, 8)), 2, []int{1, 1, 1, 0}}, {row(light(2, 1, 8, 8), light(2, 1, 7, 8), light(2, 1, 5, 8), light(3, 1, 4, 8)), 2, []int{0, 0, 1, 0}},
		// one a core, up to all cores
		{totals(1, 1), 1, []int{0}}, {totals(1, 1, 1), 1, full}, {totals(1, 1, 1), 2, []int{0, 1}}, {totals(4, 3, 3, 3), 2, full}, {totals(4, 3, 3, 3), 3, []int{0, 1, 2}}, {totals(4, 3, 3, 3), 4, []int{0, 1, 2}}, {totals(4096, 4096, 4096, 4096, 4096, 4096, 4096, 4096, 4096), 8, []int{0, 1, 2, 3, 4, 5, 6, 7}}, {totals(4096, 4096, 4096, 4096, 4096, 4096, 4096, 4096, 4096), 7, full}, {totals(16, 9, 10, 11, 12, 13, 14, 15, 16), 8, []int{7, 6, 5, 4, 3, 2, 1, 0}}, {totals(16, 9, 10, 11, 12, 13, 14, 15, 16), 7, full}, {totals(16, 8, 9, 10, 11, 12, 13, 14, 8), 7, []int{6, 5, 4, 3, 2, 1, 0, 6}}, {totals(16, 8, 9, 10, 11, 12, 13, 14, 8), 6, full},
	} {
		at, e := Place(x.l, x.cores)
		if slices.Equal(x.want, full) {
			if len(at) != 0 || e != api.ErrPartFull {
				t.Error(i, at, int(e))
			}
		} else if !slices.Equal(at, x.want) || e != api.OK || !Right(x.l, at, x.cores) {
			t.Error(i, at, int(e), x.want)
		}
		holdWords(t, x.l)
	}
}

// P16.3: Right by name: all on one core that fits and one tick more, each on its own, cores with nothing on, more cores than are used.
func TestRight(t *testing.T) {
	l := totals(8, 4, 3, 1, 5, 2)
	for i, x := range []struct {
		l     []api.Shape
		at    []int
		cores int
		want  bool
	}{
		{nil, nil, 0, true}, {row(), []int{}, 0, true}, {nil, nil, 1, true}, {nil, nil, 8, true},
		{l[:1], []int{0}, 0, false}, {l[:1], []int{0}, 1, true}, {l[:1], []int{0}, 8, true}, {l[:1], []int{1}, 1, false}, {l[:1], []int{1}, 2, true}, {l[:1], []int{7}, 8, true}, {l[:1], []int{7}, 7, false}, {l[:1], []int{8}, 8, false}, {l[:1], []int{-1}, 8, false}, {l[:1], []int{-1}, 0, false},
		{l[:3], []int{0, 0, 0}, 1, true}, {l[:3], []int{7, 7, 7}, 8, true}, {l[:3], []int{2, 0, 1}, 3, true}, {l[:4], []int{0, 0, 0, 0}, 1, false}, {l[:4], []int{0, 0, 0, 0}, 8, false}, {l[:4], []int{0, 0, 0, 1}, 1, false}, {l[:4], []int{0, 0, 0, 1}, 2, true}, {l[:4], []int{0, 1, 1, 1}, 2, false}, {l[:4], []int{0, 1, 0, 1}, 2, true}, {l[:4], []int{6, 7, 6, 7}, 8, true}, {l[:4], []int{6, 7, 7, 7}, 8, false},
		{l, []int{0, 1, 0, 1, 0}, 2, true}, {l, []int{0, 1, 0, 1, 1}, 2, false}, {l, []int{0, 1, 0, 1, 2}, 3, true}, {l, []int{0, 1, 0, 1, 2}, 2, false}, {l, []int{7, 6, 5, 4, 3}, 8, true}, {l, []int{7, 6, 5, 4, 3}, 7, false}, {l, []int{0, 1, 2, 3, 4}, 5, true}, {l, []int{0, 1, 2, 3, 4}, 4, false},
		// another place than Place tells
		{example(), []int{0, 1, 0}, 2, true}, {example(), []int{1, 0, 1}, 2, true}, {example(), []int{0, 0, 1}, 2, false}, {example(), []int{1, 1, 0}, 2, false}, {totals(16, 6, 6, 5, 5, 5, 5), []int{0, 1, 0, 0, 1, 1}, 2, true}, {totals(16, 6, 6, 5, 5, 5, 5), []int{0, 0, 1, 1, 1, 0}, 2, false},
		// what blocks
		{row(light(2, 2, 4, 4), light(4, 2, 8, 8)), []int{0, 0}, 1, true}, {row(light(2, 2, 4, 4), light(4, 3, 8, 8)), []int{0, 0}, 1, false}, {row(light(2, 2, 4, 4), light(4, 3, 8, 8)), []int{0, 1}, 2, true},
		// what doesn't fit on the first core, on one between, on the last one
		{totals(4, 4, 4, 4, 1), []int{0, 1, 2, 0}, 3, false}, {totals(4, 4, 4, 4, 1), []int{0, 1, 2, 1}, 3, false}, {totals(4, 4, 4, 4, 1), []int{0, 1, 2, 2}, 3, false}, {totals(4, 4, 4, 4, 1), []int{0, 1, 2, 3}, 4, true}, {totals(4, 1, 4), []int{7, 7}, 8, false}, {totals(4, 1, 3), []int{7, 7}, 8, true},
	} {
		if is := Right(x.l, x.at, x.cores); is != x.want {
			t.Error(i, is)
		}
		holdOn(t, x.l, x.at)
	}
}

// P16.3, P1: more shapes than may share a core are right, if there are no more than that on any: on two cores and on all.
func TestRightOfMany(t *testing.T) {
	s := light(1, 1, 8, 8)
	for i, x := range []struct {
		at    []int
		cores int
		want  bool
	}{
		{make([]int, 8), 1, true}, {make([]int, 9), 1, false}, {append(make([]int, 8), 1), 2, true}, {append([]int{1}, make([]int, 8)...), 2, true}, {append(make([]int, 9), 1), 2, false},
		{slices.Repeat([]int{0, 1, 2, 3, 4, 5, 6, 7}, 8), 8, true}, {slices.Repeat([]int{0, 1, 2, 3, 4, 5, 6, 7}, 8), 7, false}, {append(slices.Repeat([]int{0, 1, 2, 3, 4, 5, 6, 7}, 8), 3), 8, false}, {slices.Repeat([]int{0, 1, 2, 3, 4, 5, 6}, 9), 8, false},
		{make([]int, 1<<20), 8, false},
	} {
		l := times(len(x.at), s)
		if is := Right(l, x.at, x.cores); is != x.want {
			t.Error(i, is)
		}
	}
}
