package edf

import (
	"math"
	"slices"
	"testing"

	"trefoil/api"
)

// periods are all that may be: number k is 2 by k.
var periods = []int{1, 2, 4, 8, 16, 32, 64, 128, 256, 512, 1024, 2048, 4096}

// wrongTimes are numbers that are no times: just so, far off, and such as look right when they are cut.
var wrongTimes = []int{-1, -2, -8, -4096, math.MinInt32, -1 << 40, math.MinInt, math.MinInt + 8, api.MaxNum + 1, api.MaxNum + 2, 1<<40 + 8, 1 << 62, math.MaxInt}

// chance hands out numbers below a bound, always the same ones.
type chance uint64

func (c *chance) next(below int) int {
	*c = *c*6364136223846793005 + 1442695040888963407
	return int(uint64(*c)>>33) % below
}

// shape is a light shape by chance, of which no more than about one of so many parts of a core is wanted.
func (c *chance) shape(parts int) api.Shape {
	s := api.Shape{Period: periods[c.next(len(periods))]}
	s.Deadline = 1 + c.next(s.Period)
	if c.next(2) == 0 {
		s.Deadline = s.Period - c.next(1+s.Period/4)
	}
	s.Total = 1 + c.next(min(s.Deadline, 1+2*s.Period/parts))
	s.Most = 1 + c.next(min(s.Total, 1+s.Total/(1+c.next(8))))
	s.Long = s.Most + c.next(s.Total-s.Most+1)
	return s
}

// shapes is up to 8 light shapes by chance.
func (c *chance) shapes() []api.Shape {
	l := make([]api.Shape, 1+c.next(8))
	for i := range l {
		l[i] = c.shape(len(l))
	}
	return l
}

// mayBeLight is whether a shape may be, and is light, by the words of chapter 14.
func mayBeLight(s api.Shape) bool {
	return s.Total >= 1 && s.Total <= 4096 && s.Long >= 1 && s.Long <= s.Total && s.Most >= 1 && s.Most <= s.Long &&
		slices.Contains(periods, s.Period) && s.Deadline >= 1 && s.Deadline <= s.Period && s.Total <= s.Deadline
}

// mayShare is whether shapes may share a core, by the chapter's words.
func mayShare(l []api.Shape) bool {
	for _, s := range l {
		if !mayBeLight(s) {
			return false
		}
	}
	return len(l) <= 8
}

// demandByWords is the demand of shapes that may share a core: counted, one by the other, where that isn't too far, and by a shift elsewhere.
func demandByWords(l []api.Shape, time int) int {
	n := 0
	for _, s := range l {
		if time > 1<<16 {
			n += s.Total * ((time - s.Deadline + s.Period) >> slices.Index(periods, s.Period))
			continue
		}
		for due := s.Deadline; due <= time; due += s.Period {
			n += s.Total
		}
	}
	return n
}

// blockByWords is what blocks of shapes that may share a core.
func blockByWords(l []api.Shape, time int) int {
	later := []int{0}
	for _, s := range l {
		if s.Deadline > time {
			later = append(later, s.Most)
		}
	}
	return slices.Max(later)
}

// horizonByWords is the greatest Period of shapes that may share a core.
func horizonByWords(l []api.Shape) int {
	for i := len(periods) - 1; i >= 0; i-- {
		if slices.ContainsFunc(l, func(s api.Shape) bool { return s.Period == periods[i] }) {
			return periods[i]
		}
	}
	return 0
}

// firstOver is the first time up to a last one at which demand, which isn't 0, and what blocks are above it; 0, if there is none. What is due is added up tick by tick.
func firstOver(l []api.Shape, last int) int {
	demand := 0
	for time := 1; time <= last; time++ {
		for _, s := range l {
			if time >= s.Deadline && (time-s.Deadline)%s.Period == 0 {
				demand += s.Total
			}
		}
		if demand > 0 && demand+blockByWords(l, time) > time {
			return time
		}
	}
	return 0
}

// fitsByWords is whether shapes fit, by the chapter's words.
func fitsByWords(l []api.Shape) bool {
	return mayShare(l) && firstOver(l, horizonByWords(l)) == 0
}

// holdTime holds what is told of shapes at a time against the chapter's words.
func holdTime(t *testing.T, l []api.Shape, time int) {
	t.Helper()
	var demand, block int
	want := api.ErrEdfForm
	if mayShare(l) {
		want = api.ErrEdfTime
		if time >= 0 && time <= 1<<40-1 {
			want, demand, block = api.OK, demandByWords(l, time), blockByWords(l, time)
		}
	}
	if n, e := Demand(l, time); n != demand || e != want {
		t.Fatal("Demand", l, time, n, demand, int(e), int(want))
	}
	if n, e := Block(l, time); n != block || e != want {
		t.Fatal("Block", l, time, n, block, int(e), int(want))
	}
}

// holdWords holds all that is told of shapes against the chapter's words, Demand and Block at the times that count, and at wrong ones.
func holdWords(t *testing.T, l []api.Shape) {
	t.Helper()
	want, horizon := api.ErrEdfForm, 0
	if mayShare(l) {
		want, horizon = api.OK, horizonByWords(l)
	}
	if e := Check(l); e != want {
		t.Fatal("Check", l, int(e))
	}
	if n := Horizon(l); n != horizon {
		t.Fatal("Horizon", l, n)
	}
	if is := Fits(l); is != fitsByWords(l) {
		t.Fatal("Fits", l, is)
	}
	at := []int{0, horizon, 2 * horizon, 1 << 32, 1 << 39, api.MaxNum - 1}
	for _, s := range l[:min(len(l), 9)] {
		at = append(at, s.Deadline, s.Period, s.Deadline+s.Period, s.Deadline+horizon)
	}
	for _, time := range at {
		for by := -1; by <= 1; by++ {
			holdTime(t, l, time+by)
		}
	}
	for _, time := range wrongTimes {
		holdTime(t, l, time)
	}
}
