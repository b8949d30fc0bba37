package part

import (
	"slices"
	"testing"

	"trefoil/api"
	"trefoil/edf"
)

// smalls are all light shapes of a period, in nodes of 1, and in one node.
func smalls(period int) []api.Shape {
	var l []api.Shape
	for deadline := 1; deadline <= period; deadline++ {
		for total := 1; total <= deadline; total++ {
			l = append(l, light(total, 1, deadline, period))
			if total > 1 {
				l = append(l, light(total, total, deadline, period))
			}
		}
	}
	return l
}

// P16.1, P16.2, P16.3: all small shapes by one, two and three, on all numbers of cores, held against the chapter's words.
func TestSmalls(t *testing.T) {
	two := append(smalls(1), append(smalls(2), smalls(4)...)...)
	for _, a := range two {
		holdWords(t, row(a))
		for _, b := range two {
			holdWords(t, row(a, b))
			for _, d := range smalls(2) {
				holdWords(t, row(a, b, d))
			}
		}
	}
}

// P16.1, P16.2, P16.3: up to eight shapes by chance, held against the chapter's words, placed as told and by chance.
func TestByChance(t *testing.T) {
	c := chance(2)
	right := map[bool]int{}
	for range 300 {
		l := c.shapes()
		holdWords(t, l)
		for range 4 {
			cores := 1 + c.next(4)
			at := make([]int, len(l))
			for i := range at {
				at[i] = c.next(cores)
			}
			holdOn(t, l, at)
			right[Right(l, at, cores)]++
		}
	}
	if right[true] < 100 || right[false] < 100 {
		t.Error("too few of a kind", right)
	}
}

// holdLeast holds that each shape is on the least core on which it fits with those that were placed ahead of it.
func holdLeast(t *testing.T, l []api.Shape, at []int) {
	t.Helper()
	order := orderByWords(l)
	for k, i := range order {
		for core := 0; core <= at[i]; core++ {
			with := row(l[i])
			for _, ahead := range order[:k] {
				if at[ahead] == core {
					with = append(with, l[ahead])
				}
			}
			if edf.Fits(with) != (core == at[i]) {
				t.Fatal(l, at, i, core)
			}
		}
	}
}

// holdFollows holds of shapes that may share a core what follows, on one core more each time; and tells how many cores they need, to be placed.
func holdFollows(t *testing.T, l []api.Shape) int {
	t.Helper()
	needs, first := -1, []int(nil)
	for cores := range 9 {
		at, e := Place(l, cores)
		if e == api.ErrPartFull && needs < 0 && cores < len(l) && len(at) == 0 {
			continue
		}
		if e != api.OK || len(at) != len(l) {
			t.Fatal("they aren't placed", l, cores, int(e))
		}
		if needs < 0 {
			needs, first = cores, at
			holdLeast(t, l, at)
		}
		if !slices.Equal(at, first) {
			t.Fatal("they were elsewhere", l, cores, at, first)
		}
		for more := needs; more <= 8; more++ {
			if !Right(l, at, more) {
				t.Fatal("they aren't right", l, at, more)
			}
		}
		if needs > 0 && Right(l, at, needs-1) {
			t.Fatal("the last core isn't needed", l, at)
		}
	}
	return needs
}

// P16.4: what is placed is right, on more cores too; as many cores as shapes are enough; one core more leaves all where it was; each is on the least core. Up to eight shapes by chance, on all numbers of cores.
func TestFollows(t *testing.T) {
	if n := holdFollows(t, nil); n != 0 {
		t.Error(n)
	}
	if n := holdFollows(t, example()); n != 2 {
		t.Error(n)
	}
	for n := 1; n <= 8; n++ {
		if k := holdFollows(t, times(n, light(4096, 1, 4096, 4096))); k != n {
			t.Error(n, k)
		}
		if k := holdFollows(t, times(n, light(1, 1, 8, 8))); k != 1 {
			t.Error(n, k)
		}
		if k := holdFollows(t, times(n, light(3, 2, 8, 8))); k != (n+1)/2 {
			t.Error(n, k)
		}
	}
	c := chance(4)
	needs := [9]int{}
	for range 600 {
		needs[holdFollows(t, c.shapes())]++
	}
	if slices.Min(needs[1:8]) < 3 {
		t.Error("too few of a kind", needs)
	}
}

// P16.4: all small shapes by two and three: as many cores as shapes are enough.
func TestFollowsOfSmalls(t *testing.T) {
	four := smalls(4)
	needs := [4]int{}
	for _, a := range four {
		for _, b := range append(smalls(8), four...) {
			needs[holdFollows(t, row(a, b))]++
			if b.Period == 4 {
				needs[holdFollows(t, row(b, a, light(2, 2, 4, 4)))]++
			}
		}
	}
	if slices.Min(needs[1:]) < 50 {
		t.Error("too few of a kind", needs)
	}
}

// placed is how many shapes, from the first one of Order on, are placed on so many cores, and where.
func placed(l []api.Shape, cores int) (int, []int) {
	order := Order(l)
	for n := len(l); n > 0; n-- {
		var ahead []api.Shape
		for _, i := range order[:n] {
			ahead = append(ahead, l[i])
		}
		if at, e := Place(ahead, cores); e == api.OK {
			return n, at
		}
	}
	return 0, nil
}

// P16.4: where there is no room for all, one core more never places fewer of those that are first in Order, and leaves what was placed where it was.
func TestOneCoreMore(t *testing.T) {
	c := chance(5)
	more := 0
	for range 300 {
		l := c.shapes()
		last, where := placed(l, 0)
		for cores := 1; cores <= 8; cores++ {
			n, at := placed(l, cores)
			if n < last || n < min(cores, len(l)) || !slices.Equal(at[:last], where) {
				t.Fatal(l, cores, n, at, last, where)
			}
			if n > last && cores > 1 {
				more++
			}
			last, where = n, at
		}
	}
	if more < 300 {
		t.Error("too few of a kind", more)
	}
}
