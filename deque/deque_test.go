package deque

import (
	"math"
	"slices"
	"testing"

	"trefoil/api"
)

// row is its numbers.
func row(n ...int) []int { return n }

// count is so many numbers, each one more than the one ahead of it.
func count(many, from int) []int {
	l := make([]int, many)
	for i := range l {
		l[i] = from + i
	}
	return l
}

// far are numbers far from all that may be, and such as look small when they are cut to 32 bits.
func far() []int {
	return row(math.MinInt, math.MinInt+1, -1<<32, 1<<42, 1<<42+1, math.MaxInt-1, math.MaxInt)
}

// chance hands out numbers below a bound, always the same ones.
type chance uint64

func (c *chance) next(below int) int {
	*c = *c*6364136223846793005 + 1442695040888963407
	return int(uint64(*c)>>33) % below
}

// ring is a deque: its Top, its Bottom, and its Ring.
func ring(top, bottom int, l ...int) api.Deque { return api.Deque{Ring: l, Top: top, Bottom: bottom} }

// cloned is a deque that shares nothing with another one.
func cloned(q api.Deque) api.Deque { return ring(q.Top, q.Bottom, slices.Clone(q.Ring)...) }

// equal is whether all of two deques is the same.
func equal(a, b api.Deque) bool {
	return slices.Equal(a.Ring, b.Ring) && a.Top == b.Top && a.Bottom == b.Bottom
}

// popper and thief are takers at a step: their Top, Bottom and Got.
func popper(at, top, bottom, got int) api.Taker {
	return api.Taker{At: at, Top: top, Bottom: bottom, Got: got}
}

func thief(at, top, bottom, got int) api.Taker {
	return api.Taker{Steal: true, At: at, Top: top, Bottom: bottom, Got: got}
}

// ended is a taker that is at an end.
func ended(t api.Taker, end api.TakeEnd) api.Taker {
	t.End = end
	return t
}

// isLengthByWords is whether a number is one of the lengths that there are.
func isLengthByWords(n int) bool { return slices.Contains(row(1, 2, 4, 8, 16, 32, 64), n) }

// mayBe is whether a deque may be, by the chapter's words.
func mayBe(q api.Deque) bool {
	if !isLengthByWords(len(q.Ring)) || q.Top < 0 || q.Top >= 1<<40 {
		return false
	}
	// Nothing is reckoned with Bottom, which may be far from all that may be.
	return slices.Contains(count(len(q.Ring)+2, q.Top-1), q.Bottom)
}

// at is the number at a place: round by round from the Ring's first one on.
func at(q api.Deque, k int) int {
	if k < 0 {
		k = 0
	}
	return q.Ring[k-k/len(q.Ring)*len(q.Ring)]
}

// itemsByWords is the numbers of a deque that may be.
func itemsByWords(q api.Deque) []int {
	var l []int
	for k := q.Top; k < q.Bottom; k++ {
		l = append(l, at(q, k))
	}
	return l
}

// pushByWords is a deque with one number more.
func pushByWords(q api.Deque, n int) (api.Deque, api.Errno) {
	if !mayBe(q) {
		return api.Deque{}, api.ErrDequeForm
	}
	if q.Bottom < q.Top || len(itemsByWords(q)) == len(q.Ring) {
		return api.Deque{}, api.ErrDequeFull
	}
	q = cloned(q)
	q.Ring[q.Bottom%len(q.Ring)] = n
	return ring(q.Top, q.Bottom+1, q.Ring...), api.OK
}

// popSteps are the steps of one who pops, as the chapter lists them.
func popSteps() []func(q *api.Deque, t *api.Taker) {
	restore := func(end api.TakeEnd) func(q *api.Deque, t *api.Taker) {
		return func(q *api.Deque, t *api.Taker) { q.Bottom, t.End = t.Bottom+1, end }
	}
	return []func(q *api.Deque, t *api.Taker){
		func(q *api.Deque, t *api.Taker) {
			*q, *t = ring(q.Top, q.Bottom-1, q.Ring...), popper(1, t.Top, q.Bottom-1, t.Got)
		},
		func(q *api.Deque, t *api.Taker) {
			t.Top = q.Top
			if q.Top == t.Bottom {
				t.At = 2
			} else if q.Top > t.Bottom {
				t.At = 3
			} else {
				*t = ended(popper(1, q.Top, t.Bottom, at(*q, t.Bottom)), api.TakeGot)
			}
		},
		func(q *api.Deque, t *api.Taker) {
			if q.Top != t.Top {
				t.At = 3
				return
			}
			*q, *t = ring(q.Top+1, q.Bottom, q.Ring...), popper(4, t.Top, t.Bottom, at(*q, t.Bottom))
		},
		restore(api.TakeNone), restore(api.TakeGot),
	}
}

// stealSteps are the steps of one who steals, as the chapter lists them.
func stealSteps() []func(q *api.Deque, t *api.Taker) {
	return []func(q *api.Deque, t *api.Taker){
		func(q *api.Deque, t *api.Taker) { *t = thief(1, q.Top, t.Bottom, t.Got) },
		func(q *api.Deque, t *api.Taker) {
			if t.Bottom = q.Bottom; t.Top < q.Bottom {
				t.At = 2
			} else {
				t.End = api.TakeNone
			}
		},
		func(q *api.Deque, t *api.Taker) { *t = thief(3, t.Top, t.Bottom, at(*q, t.Top)) },
		func(q *api.Deque, t *api.Taker) {
			if q.Top == t.Top {
				q.Top, t.End = q.Top+1, api.TakeGot
			} else {
				t.Got, t.End = 0, api.TakeLost
			}
		},
	}
}

// stepByWords is what a step does, and what is wrong with it.
func stepByWords(q api.Deque, t api.Taker) (api.Deque, api.Taker, api.Errno) {
	if !mayBe(q) {
		return api.Deque{}, api.Taker{}, api.ErrDequeForm
	}
	steps := popSteps()
	if t.Steal {
		steps = stealSteps()
	}
	isIn := func(n int) bool { return n >= -1 && n < 1<<40 }
	if t.End != api.TakeOpen || t.At < 0 || t.At >= len(steps) || t.At > 0 && !(isIn(t.Top) && isIn(t.Bottom)) {
		return api.Deque{}, api.Taker{}, api.ErrDequeOver
	}
	q = cloned(q)
	steps[t.At](&q, &t)
	if !mayBe(q) {
		return api.Deque{}, api.Taker{}, api.ErrDequeForm
	}
	return q, t, api.OK
}

// takeByWords is all steps of a new taker.
func takeByWords(q api.Deque, steal bool) (api.Deque, api.Taker, api.Errno) {
	t, e := api.Taker{Steal: steal}, api.OK
	for e == api.OK && t.End == api.TakeOpen {
		q, t, e = stepByWords(q, t)
	}
	return q, t, e
}

// holdDeque holds what all calls but Step tell of a deque against the chapter's words.
func holdDeque(t *testing.T, q api.Deque) {
	t.Helper()
	want, items := api.ErrDequeForm, []int(nil)
	if mayBe(q) {
		want, items = api.OK, itemsByWords(q)
	}
	if e := Check(q); e != want {
		t.Error("Check", q, int(e), int(want))
	}
	if l := Items(q); !slices.Equal(l, items) {
		t.Error("Items", q, l, items)
	}
	for _, n := range append(far(), -1, 0, 77) {
		x, e := Push(q, n)
		if y, want := pushByWords(q, n); !equal(x, y) || e != want {
			t.Error("Push", q, n, x, int(e), y, int(want))
		}
	}
	for _, steal := range []bool{false, true} {
		x, a, e := Take(q, steal)
		if y, b, want := takeByWords(q, steal); !equal(x, y) || a != b || e != want {
			t.Error("Take", q, steal, x, a, int(e), y, b, int(want))
		}
	}
}

// holdStep holds what Step tells against what it has to.
func holdStep(t *testing.T, q api.Deque, x api.Taker, wantQ api.Deque, wantX api.Taker, want api.Errno) {
	t.Helper()
	if y, z, e := Step(q, x); !equal(y, wantQ) || z != wantX || e != want {
		t.Error("Step", q, x, y, z, int(e), wantQ, wantX, int(want))
	}
}

// holdByWords holds Step against the chapter's words: its error.
func holdByWords(t *testing.T, q api.Deque, x api.Taker) api.Errno {
	t.Helper()
	y, z, e := stepByWords(q, x)
	holdStep(t, q, x, y, z, e)
	return e
}

// pushed is a deque behind pushes.
func pushed(t *testing.T, q api.Deque, l ...int) api.Deque {
	t.Helper()
	for _, n := range l {
		var e api.Errno
		if q, e = Push(q, n); e != api.OK {
			t.Fatal(n, int(e))
		}
	}
	return q
}

// empty is a new deque of a size.
func empty(t *testing.T, size int) api.Deque {
	t.Helper()
	q, e := New(size)
	if e != api.OK {
		t.Fatal(size, int(e))
	}
	return q
}

// P12.1, P12.2: the chapter's example: 3, 4 and 5 are pushed: one who pops gets 5, one who steals 3, and 4 is left.
func TestExample(t *testing.T) {
	q := pushed(t, empty(t, 4), 3, 4, 5)
	if !equal(q, ring(0, 3, 3, 4, 5, 0)) || !slices.Equal(Items(q), row(3, 4, 5)) {
		t.Error(q)
	}
	popped, a, e := Take(q, false)
	if !equal(popped, ring(0, 2, 3, 4, 5, 0)) || a != ended(popper(1, 0, 2, 5), api.TakeGot) || e != api.OK {
		t.Error(popped, a, int(e))
	}
	stolen, b, e := Take(q, true)
	if !equal(stolen, ring(1, 3, 3, 4, 5, 0)) || b != ended(thief(3, 0, 3, 3), api.TakeGot) || e != api.OK {
		t.Error(stolen, b, int(e))
	}
	both, b, e := Take(popped, true)
	if !equal(both, ring(1, 2, 3, 4, 5, 0)) || b.Got != 3 || e != api.OK || !slices.Equal(Items(both), row(4)) {
		t.Error(both, b, int(e))
	}
}

// P12.1: New of each length, and of numbers that are none.
func TestNew(t *testing.T) {
	for size := -70; size <= 300; size++ {
		q, e := New(size)
		want, wantE := api.Deque{}, api.ErrDequeForm
		if isLengthByWords(size) {
			want, wantE = ring(0, 0, make([]int, size)...), api.OK
		}
		if !equal(q, want) || e != wantE {
			t.Error(size, q, int(e))
		}
	}
	for _, size := range append(far(), 1<<10, 1<<20, 1<<31, 1<<32+1, 1<<39, 1<<40, 1<<62, -64) {
		if q, e := New(size); !equal(q, api.Deque{}) || e != api.ErrDequeForm {
			t.Error(size, len(q.Ring), int(e))
		}
	}
}

// P12.1, P12.2: deques that may be: each length, at Tops from 0 to MaxNum, with Bottoms from one less up to the length more.
func TestRightDeques(t *testing.T) {
	for _, size := range row(1, 2, 4, 8, 16, 32, 64) {
		for _, top := range row(0, 1, 2, 3, 5, 31, 63, 64, 65, 100, 1<<32-1, 1<<32, 1<<39+7, api.MaxNum-64, api.MaxNum-2, api.MaxNum-1, api.MaxNum) {
			for more := -1; more <= size; more++ {
				q := ring(top, top+more, count(size, 100)...)
				if e := Check(q); e != api.OK {
					t.Error(q, int(e))
				}
				holdDeque(t, q)
			}
		}
	}
}

// wrongDeques are deques that may not be, each for one thing.
func wrongDeques() []api.Deque {
	var l []api.Deque
	for size := range 300 {
		if !isLengthByWords(size) {
			l = append(l, ring(0, 0, count(size, 1)...), ring(1, 2, count(size, 1)...))
		}
	}
	l = append(l, api.Deque{}, ring(0, 0, row()...), ring(5, 5), ring(0, 0, make([]int, 1024)...), ring(0, 0, make([]int, 1<<16)...))
	for _, size := range row(1, 2, 4, 64) {
		some := count(size, 1)
		for _, top := range append(far(), -1, -2, -64, api.MaxNum+1, api.MaxNum+2) {
			l = append(l, ring(top, top, some...), ring(top, max(top, math.MinInt+1)-1, some...), ring(top, min(top, math.MaxInt-1)+1, some...))
		}
		l = append(l, ring(-1, 0, some...))
		for _, top := range row(0, 1, 7, 64, 1<<33, api.MaxNum) {
			for _, bottom := range append(far(), top-2, top-3, top-65, top+size+1, top+size+2, top+128) {
				l = append(l, ring(top, bottom, some...))
			}
		}
	}
	return l
}

// P12.1, P12.2: deques that may not be: Rings, Tops and Bottoms: ErrDequeForm, whatever is asked, and nothing else.
func TestWrongDeques(t *testing.T) {
	takers := []api.Taker{{}, {Steal: true}, popper(2, 0, 0, 0), thief(3, 1, 2, 0), ended(popper(1, 0, 0, 0), api.TakeGot), {At: 9}, {At: -1, Top: -2, End: 7}, thief(4, math.MinInt, 0, 0)}
	for i, q := range wrongDeques() {
		if mayBe(q) {
			t.Error("the test's own words", i, q)
		}
		holdDeque(t, q)
		for _, x := range takers {
			holdStep(t, q, x, api.Deque{}, api.Taker{}, api.ErrDequeForm)
		}
		if e := Check(q); e != api.ErrDequeForm || len(Items(q)) != 0 {
			t.Error(i, q, int(e))
		}
		if t.Failed() {
			t.Fatal(i)
		}
	}
}

// P12.1: Items go round the Ring, from Top on, Bottom's own place left out.
func TestItems(t *testing.T) {
	for i, x := range []struct {
		q    api.Deque
		want []int
	}{
		{ring(0, -1, 7), nil}, {ring(0, 0, 7), nil}, {ring(0, 1, 7), row(7)}, {ring(9, 10, 7), row(7)}, {ring(9, 9, 7), nil}, {ring(9, 8, 7), nil},
		{ring(0, 2, 7, 8), row(7, 8)}, {ring(1, 2, 7, 8), row(8)}, {ring(1, 3, 7, 8), row(8, 7)}, {ring(2, 3, 7, 8), row(7)},
		{ring(2, 5, 7, 8, 9, 10), row(9, 10, 7)}, {ring(3, 7, 7, 8, 9, 10), row(10, 7, 8, 9)}, {ring(4, 8, 7, 8, 9, 10), row(7, 8, 9, 10)}, {ring(7, 8, 7, 8, 9, 10), row(10)}, {ring(6, 5, 7, 8, 9, 10), nil}, {ring(6, 6, 7, 8, 9, 10), nil},
		{ring(api.MaxNum, api.MaxNum+4, 7, 8, 9, 10), row(10, 7, 8, 9)}, {ring(api.MaxNum, api.MaxNum+1, 7, 8, 9, 10), row(10)}, {ring(api.MaxNum, api.MaxNum, 7, 8, 9, 10), nil}, {ring(api.MaxNum, api.MaxNum-1, 7, 8, 9, 10), nil},
		{ring(0, 64, count(64, 1)...), count(64, 1)}, {ring(63, 127, count(64, 1)...), append(row(64), count(63, 1)...)}, {ring(90, 110, count(64, 1)...), count(20, 27)},
		{ring(1, 3, math.MinInt, math.MaxInt), row(math.MaxInt, math.MinInt)}, {ring(0, 2, 0, 0), row(0, 0)}, {ring(0, 4, -1, 5, 5, -1), row(-1, 5, 5, -1)},
	} {
		if l := Items(x.q); !slices.Equal(l, x.want) {
			t.Error(i, x.q, l, x.want)
		}
		holdDeque(t, x.q)
	}
}

// P12.1: pushes, up to the length and beyond, of each size; ErrDequeFull then, and so while one who pops a deque without numbers is at it.
func TestPush(t *testing.T) {
	for _, size := range row(1, 2, 4, 8, 16, 32, 64) {
		for _, top := range row(0, 1, 3, 64, 1<<32+1, api.MaxNum) {
			q := ring(top, top, make([]int, size)...)
			for n := range size {
				q = pushed(t, q, 10+n)
				if !slices.Equal(Items(q), count(n+1, 10)) || q.Top != top || q.Bottom != top+n+1 || q.Ring[(top+n)%size] != 10+n {
					t.Fatal(size, top, q)
				}
			}
			for _, n := range append(far(), 0, 10) {
				if x, e := Push(q, n); !equal(x, api.Deque{}) || e != api.ErrDequeFull {
					t.Error(size, top, x, int(e))
				}
			}
			if x, e := Push(ring(top, top-1, make([]int, size)...), 5); !equal(x, api.Deque{}) || e != api.ErrDequeFull {
				t.Error(size, top, x, int(e))
			}
		}
	}
}

// P12.1, P12.2: pushes behind numbers that were taken, from either side: they stand where those stood.
func TestPushAgain(t *testing.T) {
	q := pushed(t, empty(t, 4), 1, 2, 3, 4)
	for i, x := range []struct {
		steal bool
		got   int
		want  api.Deque
	}{
		{true, 1, ring(1, 5, 10, 2, 3, 4)}, {true, 2, ring(2, 6, 10, 11, 3, 4)}, {false, 11, ring(2, 6, 10, 12, 3, 4)}, {true, 3, ring(3, 7, 10, 12, 13, 4)}, {true, 4, ring(4, 8, 10, 12, 13, 14)}, {false, 14, ring(4, 8, 10, 12, 13, 15)}, {true, 10, ring(5, 9, 16, 12, 13, 15)},
	} {
		var a api.Taker
		var e api.Errno
		q, a, e = Take(q, x.steal)
		if a.Got != x.got || a.End != api.TakeGot || e != api.OK {
			t.Error(i, a, int(e))
		}
		if q = pushed(t, q, 10+i); !equal(q, x.want) {
			t.Error(i, q, x.want)
		}
	}
	one := empty(t, 1)
	for n := range 9 {
		var a api.Taker
		one, a, _ = Take(pushed(t, one, 50+n), n%3 == 1)
		if !equal(one, ring(n+1, n+1, 50+n)) || a.Got != 50+n || a.End != api.TakeGot {
			t.Error(n, one, a)
		}
	}
}

// named is a step by name: the deque and the taker ahead of it, and behind it.
type named struct {
	q    api.Deque
	x    api.Taker
	toQ  api.Deque
	toX  api.Taker
	want api.Errno
}

// holdNamed holds steps by name, and the test's own words, against what they come to.
func holdNamed(t *testing.T, l []named) {
	t.Helper()
	for i, s := range l {
		if q, x, e := stepByWords(s.q, s.x); !equal(q, s.toQ) || x != s.toX || e != s.want {
			t.Error("the test's own words", i, q, x, int(e))
		}
		holdStep(t, s.q, s.x, s.toQ, s.toX, s.want)
		if t.Failed() {
			t.Fatal(i)
		}
	}
}

// P12.2: each step of one who pops by itself.
func TestPopSteps(t *testing.T) {
	q := ring(5, 8, 10, 11, 12, 13)
	low := ring(5, 7, 10, 11, 12, 13)
	one := ring(6, 6, 10, 11, 12, 13)
	holdNamed(t, []named{
		{q, popper(0, 0, 0, 0), low, popper(1, 0, 7, 0), api.OK},
		{q, popper(0, -9, -9, 9), low, popper(1, -9, 7, 9), api.OK},
		{ring(6, 6, 1, 2), popper(0, 0, 0, 0), ring(6, 5, 1, 2), popper(1, 0, 5, 0), api.OK},
		{ring(0, 0, 1, 2), popper(0, 0, 0, 0), ring(0, -1, 1, 2), popper(1, 0, -1, 0), api.OK},
		// its own Bottom is held against the deque's Top, and it takes by that, wherever the deque's Bottom is
		{low, popper(1, 0, 7, 0), low, ended(popper(1, 5, 7, 13), api.TakeGot), api.OK},
		{low, popper(1, 9, 6, 9), low, ended(popper(1, 5, 6, 12), api.TakeGot), api.OK},
		{one, popper(1, 0, 9, 0), one, ended(popper(1, 6, 9, 11), api.TakeGot), api.OK},
		{one, popper(1, 0, 6, 0), one, popper(2, 6, 6, 0), api.OK},
		{low, popper(1, -1, 5, 9), low, popper(2, 5, 5, 9), api.OK},
		{low, popper(1, 0, 4, 0), low, popper(3, 5, 4, 0), api.OK},
		{low, popper(1, 0, -1, 0), low, popper(3, 5, -1, 0), api.OK},
		{ring(0, -1, 1, 2), popper(1, 0, -1, 0), ring(0, -1, 1, 2), popper(3, 0, -1, 0), api.OK},
		// the deque's Top is its own still, or isn't
		{one, popper(2, 6, 6, 0), ring(7, 6, 10, 11, 12, 13), popper(4, 6, 6, 12), api.OK},
		{low, popper(2, 5, 7, 0), ring(6, 7, 10, 11, 12, 13), popper(4, 5, 7, 13), api.OK},
		{low, popper(2, 5, 4, 9), ring(6, 7, 10, 11, 12, 13), popper(4, 5, 4, 10), api.OK},
		{low, popper(2, 4, 4, 0), low, popper(3, 4, 4, 0), api.OK},
		{low, popper(2, 6, 6, 9), low, popper(3, 6, 6, 9), api.OK},
		{low, popper(2, -1, -1, 0), low, popper(3, -1, -1, 0), api.OK},
		// the deque's Bottom is its own and one
		{ring(7, 6, 1, 2), popper(3, 6, 6, 0), ring(7, 7, 1, 2), ended(popper(3, 6, 6, 0), api.TakeNone), api.OK},
		{ring(7, 6, 1, 2), popper(4, 6, 6, 12), ring(7, 7, 1, 2), ended(popper(4, 6, 6, 12), api.TakeGot), api.OK},
		{ring(7, 8, 1, 2), popper(3, 0, 5, 9), ring(7, 6, 1, 2), ended(popper(3, 0, 5, 9), api.TakeNone), api.OK},
		{ring(7, 6, 1, 2), popper(4, -1, 8, -5), ring(7, 9, 1, 2), ended(popper(4, -1, 8, -5), api.TakeGot), api.OK},
		{ring(0, -1, 1, 2), popper(3, 0, -1, 0), ring(0, 0, 1, 2), ended(popper(3, 0, -1, 0), api.TakeNone), api.OK},
	})
}

// P12.2: each step of one who steals by itself.
func TestStealSteps(t *testing.T) {
	q := ring(5, 8, 10, 11, 12, 13)
	holdNamed(t, []named{
		{q, thief(0, 0, 0, 0), q, thief(1, 5, 0, 0), api.OK},
		{q, thief(0, -9, -9, 9), q, thief(1, 5, -9, 9), api.OK},
		{ring(3, 2, 1, 2), thief(0, 0, 0, 0), ring(3, 2, 1, 2), thief(1, 3, 0, 0), api.OK},
		// its own Top is held against the deque's Bottom, wherever the deque's Top is
		{q, thief(1, 5, 0, 0), q, thief(2, 5, 8, 0), api.OK},
		{q, thief(1, 7, 0, 9), q, thief(2, 7, 8, 9), api.OK},
		{q, thief(1, -1, 0, 0), q, thief(2, -1, 8, 0), api.OK},
		{q, thief(1, 8, 0, 0), q, ended(thief(1, 8, 8, 0), api.TakeNone), api.OK},
		{q, thief(1, 9, 0, 0), q, ended(thief(1, 9, 8, 0), api.TakeNone), api.OK},
		{ring(5, 5, 1, 2), thief(1, 5, 0, 0), ring(5, 5, 1, 2), ended(thief(1, 5, 5, 0), api.TakeNone), api.OK},
		{ring(5, 4, 1, 2), thief(1, 5, 0, 0), ring(5, 4, 1, 2), ended(thief(1, 5, 4, 0), api.TakeNone), api.OK},
		{ring(5, 5, 1, 2), thief(1, 4, 0, 0), ring(5, 5, 1, 2), thief(2, 4, 5, 0), api.OK},
		// the number at its own Top, whether there is one still or not
		{q, thief(2, 5, 8, 0), q, thief(3, 5, 8, 11), api.OK},
		{q, thief(2, 4, 8, 9), q, thief(3, 4, 8, 10), api.OK},
		{q, thief(2, 7, 0, 0), q, thief(3, 7, 0, 13), api.OK},
		{ring(5, 4, 1, 2), thief(2, 4, 5, 0), ring(5, 4, 1, 2), thief(3, 4, 5, 1), api.OK},
		// the deque's Top is its own still, or isn't
		{q, thief(3, 5, 8, 11), ring(6, 8, 10, 11, 12, 13), ended(thief(3, 5, 8, 11), api.TakeGot), api.OK},
		{q, thief(3, 5, -1, -7), ring(6, 8, 10, 11, 12, 13), ended(thief(3, 5, -1, -7), api.TakeGot), api.OK},
		{ring(5, 5, 1, 2), thief(3, 5, 6, 2), ring(6, 5, 1, 2), ended(thief(3, 5, 6, 2), api.TakeGot), api.OK},
		{q, thief(3, 4, 8, 10), q, ended(thief(3, 4, 8, 0), api.TakeLost), api.OK},
		{q, thief(3, 6, 8, 12), q, ended(thief(3, 6, 8, 0), api.TakeLost), api.OK},
		{q, thief(3, -1, -1, 12), q, ended(thief(3, -1, -1, 0), api.TakeLost), api.OK},
	})
}

// walk is a taker's steps from its first one on, one behind the other: the takers, and the deque at last.
func walk(t *testing.T, q api.Deque, steal bool) (api.Deque, []api.Taker) {
	t.Helper()
	var l []api.Taker
	x, e := api.Taker{Steal: steal}, api.OK
	for x.End == api.TakeOpen {
		if q, x, e = Step(q, x); e != api.OK {
			t.Fatal(q, x, int(e))
		}
		if l = append(l, x); len(l) > 4 {
			t.Fatal("no end", l)
		}
	}
	return q, l
}

// P12.2: all steps one behind the other, of one who pops several numbers, one, and none, and of one who steals; Take comes to the same.
func TestWalks(t *testing.T) {
	for i, x := range []struct {
		q     api.Deque
		steal bool
		toQ   api.Deque
		to    []api.Taker
	}{
		{ring(2, 4, 7, 8), false, ring(2, 3, 7, 8), []api.Taker{popper(1, 0, 3, 0), ended(popper(1, 2, 3, 8), api.TakeGot)}},
		{ring(2, 3, 7, 8), false, ring(3, 3, 7, 8), []api.Taker{popper(1, 0, 2, 0), popper(2, 2, 2, 0), popper(4, 2, 2, 7), ended(popper(4, 2, 2, 7), api.TakeGot)}},
		{ring(0, 1, 9), false, ring(1, 1, 9), []api.Taker{popper(1, 0, 0, 0), popper(2, 0, 0, 0), popper(4, 0, 0, 9), ended(popper(4, 0, 0, 9), api.TakeGot)}},
		{ring(2, 2, 7, 8), false, ring(2, 2, 7, 8), []api.Taker{popper(1, 0, 1, 0), popper(3, 2, 1, 0), ended(popper(3, 2, 1, 0), api.TakeNone)}},
		{ring(0, 0, 7, 8), false, ring(0, 0, 7, 8), []api.Taker{popper(1, 0, -1, 0), popper(3, 0, -1, 0), ended(popper(3, 0, -1, 0), api.TakeNone)}},
		{ring(2, 4, 7, 8), true, ring(3, 4, 7, 8), []api.Taker{thief(1, 2, 0, 0), thief(2, 2, 4, 0), thief(3, 2, 4, 7), ended(thief(3, 2, 4, 7), api.TakeGot)}},
		{ring(3, 4, 7, 8), true, ring(4, 4, 7, 8), []api.Taker{thief(1, 3, 0, 0), thief(2, 3, 4, 0), thief(3, 3, 4, 8), ended(thief(3, 3, 4, 8), api.TakeGot)}},
		{ring(2, 2, 7, 8), true, ring(2, 2, 7, 8), []api.Taker{thief(1, 2, 0, 0), ended(thief(1, 2, 2, 0), api.TakeNone)}},
		{ring(2, 1, 7, 8), true, ring(2, 1, 7, 8), []api.Taker{thief(1, 2, 0, 0), ended(thief(1, 2, 1, 0), api.TakeNone)}},
	} {
		q, l := walk(t, x.q, x.steal)
		if !equal(q, x.toQ) || !slices.Equal(l, x.to) {
			t.Error(i, q, l)
		}
		if q, a, e := Take(x.q, x.steal); !equal(q, x.toQ) || a != x.to[len(x.to)-1] || e != api.OK {
			t.Error(i, q, a, int(e))
		}
	}
}

// P12.2: takers that are at an end, at no step of their kind, or have a Top or a Bottom that may not be: ErrDequeOver, but for a Top and a Bottom at step 0.
func TestWrongTakers(t *testing.T) {
	q := ring(5, 7, 10, 11, 12, 13)
	over := func(x api.Taker) {
		t.Helper()
		holdStep(t, q, x, api.Deque{}, api.Taker{}, api.ErrDequeOver)
	}
	for _, steal := range []bool{false, true} {
		last := 4
		if steal {
			last = 3
		}
		for at := 0; at <= last; at++ {
			for _, end := range []api.TakeEnd{api.TakeGot, api.TakeNone, api.TakeLost, 4, -1, math.MinInt, math.MaxInt, 1 << 32} {
				over(api.Taker{Steal: steal, At: at, End: end})
				over(api.Taker{Steal: steal, At: at, Top: 5, Bottom: 6, Got: 3, End: end})
			}
		}
		for _, at := range append(far(), -1, -2, last+1, last+2, 64) {
			over(api.Taker{Steal: steal, At: at})
			over(api.Taker{Steal: steal, At: at, Top: 5, Bottom: 6})
		}
		for _, n := range append(far(), -2, -3, api.MaxNum+1, api.MaxNum+2) {
			for at := 1; at <= last; at++ {
				over(api.Taker{Steal: steal, At: at, Top: n, Bottom: 6})
				over(api.Taker{Steal: steal, At: at, Top: 5, Bottom: n})
				over(api.Taker{Steal: steal, At: at, Top: n, Bottom: n})
			}
			for _, x := range []api.Taker{{Steal: steal, Top: n}, {Steal: steal, Bottom: n}, {Steal: steal, Top: n, Bottom: n, Got: n}} {
				if e := holdByWords(t, q, x); e != api.OK {
					t.Error(x, int(e))
				}
			}
		}
	}
	over(popper(5, 5, 6, 0))
	over(thief(4, 5, 6, 0))
}

// P12.2: a taker's Top and Bottom of -1 and of MaxNum, at each step; a place below 0 is place 0.
func TestTakersEdges(t *testing.T) {
	deques := []api.Deque{ring(0, -1, 7, 8), ring(0, 0, 7, 8), ring(0, 1, 7, 8), ring(0, 2, 7, 8), ring(5, 6, 7, 8), ring(api.MaxNum-1, api.MaxNum, 7, 8), ring(api.MaxNum, api.MaxNum+1, 7, 8), ring(api.MaxNum, api.MaxNum-1, 7, 8)}
	for _, q := range deques {
		for _, top := range row(-1, 0, 1, api.MaxNum-1, api.MaxNum) {
			for _, bottom := range row(-1, 0, 1, api.MaxNum-1, api.MaxNum) {
				for at := range 5 {
					holdByWords(t, q, popper(at, top, bottom, 0))
					holdByWords(t, q, thief(at, top, bottom, 0))
				}
			}
		}
	}
	holdNamed(t, []named{
		{ring(3, 4, 7, 8), thief(2, -1, 4, 0), ring(3, 4, 7, 8), thief(3, -1, 4, 7), api.OK},
		{ring(0, 0, 7, 8, 9, 10), popper(2, 0, -1, 0), ring(1, 0, 7, 8, 9, 10), popper(4, 0, -1, 7), api.OK},
		{ring(3, 3, 7, 8, 9, 10), popper(2, 3, -1, 0), ring(4, 3, 7, 8, 9, 10), popper(4, 3, -1, 7), api.OK},
		{ring(3, 3, 7, 8, 9, 10), popper(2, 3, api.MaxNum, 0), ring(4, 3, 7, 8, 9, 10), popper(4, 3, api.MaxNum, 10), api.OK},
		{ring(3, 3, 7, 8, 9, 10), popper(1, api.MaxNum, api.MaxNum, 0), ring(3, 3, 7, 8, 9, 10), ended(popper(1, 3, api.MaxNum, 10), api.TakeGot), api.OK},
		{ring(3, 4, 7, 8, 9, 10), thief(2, api.MaxNum, 4, 0), ring(3, 4, 7, 8, 9, 10), thief(3, api.MaxNum, 4, 10), api.OK},
		{ring(api.MaxNum-1, api.MaxNum, 7, 8), thief(3, api.MaxNum-1, api.MaxNum, 7), ring(api.MaxNum, api.MaxNum, 7, 8), ended(thief(3, api.MaxNum-1, api.MaxNum, 7), api.TakeGot), api.OK},
		{ring(api.MaxNum, api.MaxNum-1, 7, 8), popper(3, 0, api.MaxNum, 0), ring(api.MaxNum, api.MaxNum+1, 7, 8), ended(popper(3, 0, api.MaxNum, 0), api.TakeNone), api.OK},
	})
}

// P12.2: steps behind which the deque may not be any more: ErrDequeForm, and nothing else.
func TestWrongBehind(t *testing.T) {
	for i, x := range []struct {
		q api.Deque
		x api.Taker
	}{
		// Bottom was one less than Top already
		{ring(3, 2, 7, 8), popper(0, 0, 0, 0)}, {ring(0, -1, 7), popper(0, 0, 0, 0)}, {ring(api.MaxNum, api.MaxNum-1, 7), popper(0, 0, 0, 0)},
		{ring(3, 2, 7, 8), popper(2, 3, 2, 0)}, {ring(3, 2, 7, 8), thief(3, 3, 4, 7)}, {ring(0, -1, 7), popper(2, 0, -1, 0)}, {ring(0, -1, 7), thief(3, 0, 1, 7)},
		// Top was MaxNum already
		{ring(api.MaxNum, api.MaxNum, 7, 8), popper(2, api.MaxNum, api.MaxNum, 0)}, {ring(api.MaxNum, api.MaxNum+2, 7, 8), thief(3, api.MaxNum, api.MaxNum, 8)},
		// the taker's Bottom is far from the deque's Top
		{ring(3, 2, 7, 8), popper(3, 3, 0, 0)}, {ring(3, 2, 7, 8), popper(4, 3, 0, 0)}, {ring(3, 2, 7, 8), popper(3, 3, 5, 0)}, {ring(3, 2, 7, 8), popper(4, 3, 5, 0)}, {ring(3, 2, 7, 8), popper(3, 3, -1, 0)}, {ring(3, 2, 7, 8), popper(4, 3, api.MaxNum, 0)}, {ring(0, 0, 7), popper(3, 0, 1, 0)}, {ring(api.MaxNum, api.MaxNum, 7), popper(4, 0, 0, 0)},
	} {
		if e := Check(x.q); e != api.OK {
			t.Error("the deque may be", i, int(e))
		}
		holdNamed(t, []named{{q: x.q, x: x.x, want: api.ErrDequeForm}})
		// At an end, or where it may not be, that is told instead: no step is done.
		for _, wrong := range []api.Taker{ended(x.x, api.TakeNone), {Steal: x.x.Steal, At: 5}, {Steal: x.x.Steal, At: 1, Top: -2}} {
			holdNamed(t, []named{{q: x.q, x: wrong, want: api.ErrDequeOver}})
		}
	}
}

// P12.2: a Take's error is that of its first Step that has one: a Bottom that is one less than Top, and numbers behind MaxNum.
func TestTakeErrors(t *testing.T) {
	const top = api.MaxNum
	for i, x := range []struct {
		q     api.Deque
		steal bool
		want  api.Errno
	}{
		{ring(3, 2, 7, 8), false, api.ErrDequeForm}, {ring(3, 2, 7, 8), true, api.OK}, {ring(0, -1, 7), false, api.ErrDequeForm}, {ring(0, -1, 7), true, api.OK},
		{ring(top, top, 7, 8), false, api.OK}, {ring(top, top, 7, 8), true, api.OK},
		{ring(top, top+1, 7, 8), false, api.ErrDequeForm}, {ring(top, top+1, 7, 8), true, api.ErrDequeOver},
		{ring(top, top+2, 7, 8), false, api.ErrDequeOver}, {ring(top, top+2, 7, 8), true, api.ErrDequeOver},
		{ring(top-1, top+1, 7, 8), false, api.OK}, {ring(top-1, top+1, 7, 8), true, api.ErrDequeOver},
		{ring(top-1, top, 7, 8), false, api.OK}, {ring(top-1, top, 7, 8), true, api.OK},
		{ring(top-63, top+1, make([]int, 64)...), false, api.OK}, {ring(top-62, top+2, make([]int, 64)...), false, api.ErrDequeOver},
	} {
		q, a, e := Take(x.q, x.steal)
		if e != x.want || e != api.OK && (!equal(q, api.Deque{}) || a != api.Taker{}) {
			t.Error(i, q, a, int(e))
		}
		holdDeque(t, x.q)
	}
}

// P12.1, P12.2: all deques of small Rings, wrong ones among them, and takers of all steps with small numbers, held against the chapter's words.
func TestSmall(t *testing.T) {
	told := map[api.Errno]int{}
	for size := range 5 {
		for top := -1; top <= 5; top++ {
			for bottom := top - 3; bottom <= top+size+2; bottom++ {
				q := ring(top, bottom, count(size, 50)...)
				holdDeque(t, q)
				for i := range 7 * 9 * 9 * 2 * 2 {
					x := api.Taker{Steal: i%2 == 1, At: i/2%7 - 1, Top: i/14%9 - 2, Bottom: i/126%9 - 2, Got: 40 * (i / 1134)}
					told[holdByWords(t, q, x)]++
				}
				if t.Failed() {
					t.FailNow()
				}
			}
		}
	}
	for _, e := range []api.Errno{api.OK, api.ErrDequeForm, api.ErrDequeOver} {
		if told[e] < 10000 {
			t.Error("too few of a kind", told)
		}
	}
}

// P12.1: Same: deques that are the same, nil and empty Rings being one; and such that differ in one number, in Top, in Bottom, or in how long the Ring is.
func TestSame(t *testing.T) {
	deques := []api.Deque{
		{}, ring(1, 0), ring(0, 1), ring(-1, 0), ring(0, 0, 0), ring(0, 0, 0, 0), ring(0, 0, 0, 0, 0), ring(0, 0, 1), ring(1, 1, 0), ring(1, 0, 0), ring(0, 1, 0), ring(0, 0, 1, 0), ring(0, 0, 0, 1), ring(0, 1, 0, 0), ring(1, 0, 0, 0), ring(2, 5, 1, 2, 3, 4), ring(5, 2, 1, 2, 3, 4), ring(2, 5, 2, 1, 3, 4), ring(2, 5, 4, 3, 2, 1), ring(6, 9, 1, 2, 3, 4), ring(2, 5, 1, 2, 3), ring(0, 64, make([]int, 64)...), ring(0, 64, make([]int, 65)...), ring(math.MinInt, math.MaxInt, far()...), ring(math.MaxInt, math.MinInt, far()...),
	}
	for i, a := range deques {
		for j, b := range deques {
			if is := Same(a, cloned(b)); is != (i == j) {
				t.Error(a, b, is)
			}
		}
	}
	if !Same(api.Deque{}, ring(0, 0, row()...)) || !Same(ring(3, 4, row()...), ring(3, 4)) {
		t.Error("nil and empty are one")
	}
	whole := ring(3, 5, append(far(), 9, 8, 7)...)
	differs := func(change func(q *api.Deque)) {
		t.Helper()
		q := cloned(whole)
		change(&q)
		if Same(whole, q) || Same(q, whole) {
			t.Error(q)
		}
	}
	for _, by := range row(1, -1, 1<<32, math.MinInt) {
		differs(func(q *api.Deque) { q.Top += by })
		differs(func(q *api.Deque) { q.Bottom += by })
		for i := range whole.Ring {
			// Numbers that aren't Items count too.
			differs(func(q *api.Deque) { q.Ring[i] += by })
		}
	}
	for i := range whole.Ring {
		differs(func(q *api.Deque) { q.Ring = q.Ring[:i] })
		differs(func(q *api.Deque) { q.Ring = slices.Delete(q.Ring, i, i+1) })
	}
	differs(func(q *api.Deque) { q.Ring = append(q.Ring, 0) })
	if !Same(whole, cloned(whole)) || !Same(whole, whole) {
		t.Error("the same")
	}
}

// P1, P12.1, P12.2: at all arguments each call answers: far numbers everywhere, and Rings of all lengths.
func TestAnswers(t *testing.T) {
	by := chance(17)
	number := func() int {
		if by.next(5) == 0 {
			return far()[by.next(len(far()))]
		}
		return []int{0, 0, -1, api.MaxNum, 1 << 32}[by.next(5)] + by.next(9) - 4
	}
	told := map[api.Errno]int{}
	for range 100000 {
		q := ring(number(), number(), count(by.next(9), number())...)
		if by.next(4) > 0 {
			q.Ring = count(1<<by.next(7), number())
			q.Bottom = q.Top + by.next(len(q.Ring)+4) - 2
		}
		x := api.Taker{Steal: by.next(2) == 0, At: by.next(5), Top: number(), Bottom: number(), Got: number()}
		switch by.next(6) {
		case 0:
			x.At = number()
		case 1:
			x.End = api.TakeEnd(number())
		case 2:
			x.Top, x.Bottom = q.Top, q.Bottom
		}
		holdDeque(t, q)
		told[holdByWords(t, q, x)]++
		New(number())
		Same(q, ring(number(), number(), q.Ring...))
		if t.Failed() {
			t.FailNow()
		}
	}
	if told[api.OK] < 5000 || told[api.ErrDequeForm] < 5000 || told[api.ErrDequeOver] < 5000 {
		t.Error("too few of a kind", told)
	}
}

// spare is a deque with room behind its Ring, all of the room the same number.
func spare(q api.Deque) api.Deque {
	return ring(q.Top, q.Bottom, append(slices.Clone(q.Ring), row(77, 77, 77)...)[:len(q.Ring)]...)
}

// isSpare is whether such a deque, and the room behind its Ring, is as it was.
func isSpare(q, was api.Deque) bool {
	return equal(q, was) && slices.Equal(q.Ring[:len(was.Ring)+3], append(slices.Clone(was.Ring), 77, 77, 77))
}

// P12.1, P12.2: what is handed in stays as it was, the room behind the Ring included.
func TestKept(t *testing.T) {
	right := []api.Deque{ring(0, 0, 7), ring(0, 1, 7), ring(4, 3, 7, 8), ring(4, 4, 7, 8), ring(4, 5, 7, 8), ring(4, 6, 7, 8), ring(7, 9, 7, 8, 9, 10), ring(6, 10, 7, 8, 9, 10), ring(api.MaxNum, api.MaxNum+1, 7, 8), ring(100, 163, count(64, 1)...)}
	for i, was := range append(wrongDeques(), right...) {
		q := spare(was)
		holdDeque(t, q)
		for at := range 5 {
			Step(q, popper(at, was.Top, was.Bottom, 5))
			Step(q, thief(at, was.Top, was.Bottom, 5))
			Step(q, popper(at, was.Top, was.Top, 5))
		}
		Same(q, q)
		if !isSpare(q, was) {
			t.Error(i, q, was)
		}
	}
}

// overwrite writes into all of a list, the room behind it included.
func overwrite(l []int) {
	l = l[:cap(l)]
	for i := range l {
		l[i] = 99
	}
}

// P12.1, P12.2: what is handed out is new memory: whoever writes into it changes neither what was handed in, nor what is handed out next.
func TestNewMemory(t *testing.T) {
	q := spare(ring(6, 8, 7, 8, 9, 10))
	for range 3 {
		first, _ := New(4)
		items := Items(q)
		more, _ := Push(q, 5)
		lists := [][]int{first.Ring, items, more.Ring}
		if !equal(first, ring(0, 0, 0, 0, 0, 0)) || !slices.Equal(items, row(9, 10)) || !equal(more, ring(6, 9, 5, 8, 9, 10)) {
			t.Error(first, items, more)
		}
		for _, steal := range []bool{false, true} {
			taken, _, _ := Take(q, steal)
			lists = append(lists, taken.Ring)
			for at := range 4 {
				stepped, x, e := Step(q, api.Taker{Steal: steal, At: at, Top: 6, Bottom: 7})
				if e != api.OK || len(stepped.Ring) != 4 {
					t.Error(stepped, x, int(e))
				}
				lists = append(lists, stepped.Ring)
			}
		}
		for _, l := range lists {
			overwrite(l)
		}
		if !isSpare(q, ring(6, 8, 7, 8, 9, 10)) {
			t.Fatal(q)
		}
	}
}

// P12.1, P12.2: nobody writes later into what is handed back: neither the same calls, asked again of it and of others, nor the calls of what comes of it.
func TestWrittenByNobody(t *testing.T) {
	first := empty(t, 4)
	three := pushed(t, first, 3, 4, 5)
	items := Items(three)
	stepped, x, _ := Step(three, api.Taker{})
	taken, _, _ := Take(three, true)
	for range 3 {
		for i, q := range []api.Deque{first, three, taken} {
			y := pushed(t, q, 20+i)
			for n := range 12 {
				y, _, _ = Take(y, n%2 == 0)
				y = pushed(t, y, 30+n)
			}
			Items(y)
		}
		z, a, _ := Step(stepped, x)
		pushed(t, z, 40, 41)
		Step(z, a)
	}
	if !equal(first, ring(0, 0, 0, 0, 0, 0)) || !equal(three, ring(0, 3, 3, 4, 5, 0)) || !slices.Equal(items, row(3, 4, 5)) || !equal(stepped, ring(0, 2, 3, 4, 5, 0)) || !equal(taken, ring(1, 3, 3, 4, 5, 0)) {
		t.Error(first, three, items, stepped, taken)
	}
}
