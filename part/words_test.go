package part

import (
	"math"
	"slices"
	"testing"

	"trefoil/api"
	"trefoil/edf"
)

// wrongCores are numbers of which there may not be so many cores: just so, far off, and such as look right when they are cut.
var wrongCores = []int{-1, -2, -8, 9, 10, 16, 64, 255, 256, 258, math.MinInt32, -1<<32 + 2, 1<<32 + 2, 1 << 40, 1 << 62, math.MinInt, math.MinInt + 2, math.MaxInt}

// chance hands out numbers below a bound, always the same ones.
type chance uint64

func (c *chance) next(below int) int {
	*c = *c*6364136223846793005 + 1442695040888963407
	return int(uint64(*c)>>33) % below
}

// shape is a light shape by chance, of which no more than about one of so many parts of a core is wanted.
func (c *chance) shape(parts int) api.Shape {
	s := api.Shape{Period: 1 << c.next(9)}
	s.Deadline = 1 + c.next(s.Period)
	if c.next(2) == 0 {
		s.Deadline = s.Period - c.next(1+s.Period/4)
	}
	s.Total = 1 + c.next(min(s.Deadline, 1+2*s.Period/parts))
	s.Most = 1 + c.next(min(s.Total, 1+s.Total/(1+c.next(8))))
	s.Long = s.Most + c.next(s.Total-s.Most+1)
	return s
}

// shapes is up to 8 light shapes by chance.
func (c *chance) shapes() []api.Shape {
	l, parts := make([]api.Shape, 1+c.next(8)), 1+c.next(6)
	for i := range l {
		l[i] = c.shape(parts)
	}
	return l
}

// orderByWords is the places of shapes, each where it stands by how many are ahead of it.
func orderByWords(l []api.Shape) []int {
	order := make([]int, len(l))
	for i, s := range l {
		ahead := 0
		for k, other := range l {
			if other.Total > s.Total || other.Total == s.Total && k < i {
				ahead++
			}
		}
		order[ahead] = i
	}
	return order
}

// placeByWords is where shapes are placed, by the chapter's words: each core keeps a list of its own.
func placeByWords(l []api.Shape, cores int) ([]int, api.Errno) {
	if edf.Check(l) != api.OK || cores < 0 || cores > 8 {
		return nil, api.ErrPartForm
	}
	lists := make([][]api.Shape, cores)
	at := make([]int, len(l))
	for _, i := range orderByWords(l) {
		at[i] = slices.IndexFunc(lists, func(on []api.Shape) bool { return edf.Fits(slices.Concat(on, row(l[i]))) })
		if at[i] < 0 {
			return nil, api.ErrPartFull
		}
		lists[at[i]] = append(lists[at[i]], l[i])
	}
	return at, api.OK
}

// onByWords is the shapes on a core: all others are thrown out.
func onByWords(l []api.Shape, at []int, core int) []api.Shape {
	on := slices.Clone(l)
	for i := len(l) - 1; i >= 0; i-- {
		if i >= len(at) || at[i] != core {
			on = slices.Delete(on, i, i+1)
		}
	}
	return on
}

// rightByWords is whether shapes are placed right, by the chapter's words.
func rightByWords(l []api.Shape, at []int, cores int) bool {
	if cores < 0 || cores > 8 || len(at) != len(l) {
		return false
	}
	lists := make([][]api.Shape, cores)
	for i, core := range at {
		if core < 0 || core > cores-1 {
			return false
		}
		lists[core] = append(lists[core], l[i])
	}
	return !slices.ContainsFunc(lists, func(on []api.Shape) bool { return !edf.Fits(on) })
}

// holdOn holds On and Right of shapes, placed so, against the chapter's words, on all cores and on wrong ones.
func holdOn(t *testing.T, l []api.Shape, at []int) {
	t.Helper()
	for core := -1; core <= 9; core++ {
		if on, want := On(l, at, core), onByWords(l, at, core); !slices.Equal(on, want) {
			t.Fatal("On", l, at, core, on, want)
		}
		if is := Right(l, at, core); is != rightByWords(l, at, core) {
			t.Fatal("Right", l, at, core, is)
		}
	}
	for _, core := range wrongCores {
		if on, want := On(l, at, core), onByWords(l, at, core); !slices.Equal(on, want) {
			t.Fatal("On", l, at, core, on, want)
		}
		if Right(l, at, core) {
			t.Fatal("Right", l, at, core)
		}
	}
}

// holdWords holds all that is told of shapes against the chapter's words, on all numbers of cores that may be and on wrong ones.
func holdWords(t *testing.T, l []api.Shape) {
	t.Helper()
	if order := Order(l); !slices.Equal(order, orderByWords(l)) {
		t.Fatal("Order", l, order)
	}
	for cores := -1; cores <= 9; cores++ {
		at, e := Place(l, cores)
		if want, why := placeByWords(l, cores); !slices.Equal(at, want) || e != why {
			t.Fatal("Place", l, cores, at, int(e), want, int(why))
		}
		holdOn(t, l, at)
	}
	for _, cores := range wrongCores {
		if at, e := Place(l, cores); len(at) != 0 || e != api.ErrPartForm {
			t.Fatal("Place", l, cores, at, int(e))
		}
	}
}
