package deque

import (
	"slices"
	"testing"

	"trefoil/api"
)

// P12.3: one number is left, of which one who pops and one who steals take at once, in each order of their steps: just one of them gets it.
func TestLast(t *testing.T) {
	ends := map[[2]api.TakeEnd]int{}
	var mix func(q api.Deque, pops, steals api.Taker)
	mix = func(q api.Deque, pops, steals api.Taker) {
		if pops.End == api.TakeOpen {
			y, x, e := Step(q, pops)
			if e != api.OK {
				t.Fatal(q, pops, int(e))
			}
			mix(y, x, steals)
		}
		if steals.End == api.TakeOpen {
			y, x, e := Step(q, steals)
			if e != api.OK {
				t.Fatal(q, steals, int(e))
			}
			mix(y, pops, x)
		}
		if pops.End == api.TakeOpen || steals.End == api.TakeOpen {
			return
		}
		ends[[2]api.TakeEnd{pops.End, steals.End}]++
		isPopped, isStolen := pops.End == api.TakeGot, steals.End == api.TakeGot
		if isPopped == isStolen {
			t.Error("got twice, or by nobody", pops, steals)
		}
		if isPopped && (pops.Got != 7 || steals.Got != 0) || isStolen && (steals.Got != 7 || pops.Got != 0) {
			t.Error("what was got", pops, steals)
		}
		if !equal(q, ring(6, 6, 8, 7)) {
			t.Error(q)
		}
	}
	mix(ring(5, 6, 8, 7), api.Taker{}, api.Taker{Steal: true})
	for _, end := range [][2]api.TakeEnd{{api.TakeGot, api.TakeNone}, {api.TakeGot, api.TakeLost}, {api.TakeNone, api.TakeGot}} {
		if ends[end] == 0 {
			t.Error("no order ends so", end)
		}
	}
	if len(ends) != 3 {
		t.Error("an end that may not be", ends)
	}
}

// P12.3: one number is left, and what each order comes to by name: who reaches for Top first gets it.
func TestLastByName(t *testing.T) {
	type ending struct {
		order   string
		popped  api.TakeEnd
		stolen  api.TakeEnd
		popGot  int
		stealAt int
	}
	for _, want := range []ending{
		{"ppppss", api.TakeGot, api.TakeNone, 7, 1}, {"pssppp", api.TakeGot, api.TakeNone, 7, 1}, {"ssppppss", api.TakeGot, api.TakeLost, 7, 3}, {"ssspppsp", api.TakeGot, api.TakeLost, 7, 3},
		{"ssssppp", api.TakeNone, api.TakeGot, 0, 3}, {"ssspspp", api.TakeNone, api.TakeGot, 0, 3}, {"sssppspp", api.TakeNone, api.TakeGot, 0, 3}, {"spspp", api.TakeOpen, api.TakeNone, 7, 1},
	} {
		q, e := ring(5, 6, 8, 7), api.OK
		pops, steals := api.Taker{}, api.Taker{Steal: true}
		for _, who := range want.order {
			if who == 'p' {
				q, pops, e = Step(q, pops)
			} else if steals.End == api.TakeOpen {
				q, steals, e = Step(q, steals)
			}
			if e != api.OK {
				t.Fatal(want.order, q, pops, steals, int(e))
			}
		}
		if got := (ending{want.order, pops.End, steals.End, pops.Got, steals.At}); got != want {
			t.Error(got, want)
		}
	}
}

// doing is what an owner does: it pushes its numbers one by one, and pops where there is a 0.
type doing []int

// doings are all rows of so many pushes and pops; what is pushed rises.
func doings(many int) []doing {
	var l []doing
	for bits := range 1 << many {
		var d doing
		for i := range many {
			d = append(d, bits>>i&1*(i+1))
		}
		l = append(l, d)
	}
	return l
}

// most are how many thieves, places of a Ring, and pushes there are at most where all mixes are gone through.
const (
	mostThieves = 3
	mostPlaces  = 4
	mostPushes  = 6
)

// mix is how far all have come: the deque, its owner, who is at so many of its doings, in the midst of popping or not, the thieves, and how many takes each one has left; and what was pushed, and nobody got, in order.
type mix struct {
	ring        [mostPlaces]int
	top, bottom int
	done        int
	isPopping   bool
	owner       api.Taker
	thieves     [mostThieves]api.Taker
	takes       [mostThieves]int
	there       [mostPushes]int
	many        int
}

// world is what stays as it is while all is mixed: the owner's doings, how long the Ring is, and which mixes were seen.
type world struct {
	t     *testing.T
	does  doing
	size  int
	seen  map[mix]bool
	ended map[api.TakeEnd]int
}

// deque is the deque itself.
func (w *world) deque(m *mix) api.Deque { return ring(m.top, m.bottom, m.ring[:w.size]...) }

// put lets the mix have a deque.
func (w *world) put(m *mix, q api.Deque) {
	w.t.Helper()
	if Check(q) != api.OK || len(q.Ring) != w.size {
		w.t.Fatal("a deque that may not be", w.does, m, q)
	}
	copy(m.ring[:], q.Ring)
	m.top, m.bottom = q.Top, q.Bottom
}

// step lets a taker do a step.
func (w *world) step(m *mix, x *api.Taker) {
	w.t.Helper()
	q, y, e := Step(w.deque(m), *x)
	if e != api.OK {
		w.t.Fatal("no step", w.does, m, int(e))
	}
	*x = y
	w.put(m, q)
}

// getsOldest is that a thief got a number: it has to be the oldest one that was there.
func (w *world) getsOldest(m *mix, got int) {
	w.t.Helper()
	if m.many == 0 || got != m.there[0] {
		w.t.Fatal("not the oldest", w.does, m, got)
	}
	copy(m.there[:], m.there[1:])
	m.many--
	m.there[m.many] = 0
}

// getsNewest is that the owner got a number: it has to be the newest one that was there.
func (w *world) getsNewest(m *mix, got int) {
	w.t.Helper()
	if m.many == 0 || got != m.there[m.many-1] {
		w.t.Fatal("not the newest", w.does, m, got)
	}
	m.many--
	m.there[m.many] = 0
}

// push is that the owner pushes a number, if there is room.
func (w *world) push(m *mix, n int) {
	w.t.Helper()
	q, e := Push(w.deque(m), n)
	if m.many == w.size {
		if e != api.ErrDequeFull {
			w.t.Fatal("no room", w.does, m, int(e))
		}
		return
	}
	if e != api.OK {
		w.t.Fatal("room", w.does, m, int(e))
	}
	w.put(m, q)
	m.there[m.many] = n
	m.many++
}

// ownerGoes is what the owner does next: a push, or a step of its popping.
func (w *world) ownerGoes(m *mix) {
	w.t.Helper()
	if n := w.does[m.done]; n != 0 {
		w.push(m, n)
		m.done++
		return
	}
	m.isPopping = true
	w.step(m, &m.owner)
	// Where it takes without a look at others, and where it reached for Top ahead of all others, the number is its own from then on.
	if m.owner.End == api.TakeGot && m.owner.At == 1 || m.owner.End == api.TakeOpen && m.owner.At == 4 {
		w.getsNewest(m, m.owner.Got)
	}
	if m.owner.End == api.TakeNone && (m.many > 0 || m.owner.Got != 0) {
		w.t.Fatal("none, though one is there", w.does, m)
	}
	if m.owner.End == api.TakeLost {
		w.t.Fatal("one who pops doesn't lose", w.does, m)
	}
	if m.owner.End != api.TakeOpen {
		w.ended[m.owner.End]++
		m.owner, m.isPopping = api.Taker{}, false
		m.done++
	}
}

// thiefGoes is a step of a thief.
func (w *world) thiefGoes(m *mix, i int) {
	w.t.Helper()
	x := &m.thieves[i]
	w.step(m, x)
	switch x.End {
	case api.TakeOpen:
		return
	case api.TakeGot:
		w.getsOldest(m, x.Got)
	case api.TakeNone:
		// The last one isn't seen while its owner pops it.
		if m.many > 1 || m.many == 1 && !m.isPopping || x.Got != 0 {
			w.t.Fatal("none, though one is there", w.does, m)
		}
	case api.TakeLost:
		if x.Top >= m.top || x.Got != 0 {
			w.t.Fatal("lost to nobody", w.does, m)
		}
	}
	w.ended[x.End]++
	*x = api.Taker{Steal: true}
	m.takes[i]--
}

// goOn goes through all that may come of a mix.
func (w *world) goOn(m mix) {
	if w.seen[m] {
		return
	}
	w.seen[m] = true
	if !m.isPopping && !slices.Equal(Items(w.deque(&m)), m.there[:m.many]) {
		w.t.Fatal("what is there", w.does, m)
	}
	if m.done < len(w.does) {
		next := m
		w.ownerGoes(&next)
		w.goOn(next)
	}
	for i := range m.takes {
		if m.takes[i] > 0 {
			next := m
			w.thiefGoes(&next, i)
			w.goOn(next)
		}
	}
}

// P12.3: all mixes of an owner's pushes and pops with the steps of thieves: one who takes often, two who take twice, three who take once: nothing is got twice, or lost.
func TestMixes(t *testing.T) {
	ended, all := map[api.TakeEnd]int{}, 0
	for _, takes := range [][mostThieves]int{{4, 0, 0}, {2, 2, 0}, {1, 1, 1}} {
		// What fewer doings come to is gone through on the way.
		for _, does := range doings(5) {
			for size := 1; size <= mostPlaces; size *= 2 {
				w := &world{t: t, does: does, size: size, seen: map[mix]bool{}, ended: ended}
				first := mix{takes: takes}
				for i := range first.thieves {
					first.thieves[i].Steal = true
				}
				w.goOn(first)
				all += len(w.seen)
			}
		}
	}
	if all < 100000 || ended[api.TakeGot] < 1000 || ended[api.TakeNone] < 1000 || ended[api.TakeLost] < 1000 || ended[api.TakeOpen] != 0 {
		t.Error("too few of a kind", all, ended)
	}
}

// crowd is a deque, an owner, who may be popping, and thieves; and what was pushed, popped and stolen so far.
type crowd struct {
	t                       *testing.T
	by                      chance
	q                       api.Deque
	owner                   api.Taker
	isPopping               bool
	thieves                 []api.Taker
	pushed, popped, stolen  []int
	lost, none, full, empty int
}

// newCrowd is so many thieves at a deque without numbers.
func newCrowd(t *testing.T, seed, size, top, thieves int) *crowd {
	t.Helper()
	c := &crowd{t: t, by: chance(seed), q: ring(top, top, make([]int, size)...)}
	for range thieves {
		c.thieves = append(c.thieves, api.Taker{Steal: true})
	}
	return c
}

// step lets a taker do a step.
func (c *crowd) step(x *api.Taker) {
	c.t.Helper()
	q, y, e := Step(c.q, *x)
	if e != api.OK {
		c.t.Fatal(c.q, *x, int(e))
	}
	c.q, *x = q, y
}

// push is that the owner pushes a number, greater than all ahead of it, if there is room.
func (c *crowd) push() {
	c.t.Helper()
	n := len(c.pushed) + 1000
	q, e := Push(c.q, n)
	switch e {
	case api.OK:
		c.q, c.pushed = q, append(c.pushed, n)
	case api.ErrDequeFull:
		c.full++
	default:
		c.t.Fatal(c.q, int(e))
	}
}

// pop is a step of the owner's popping.
func (c *crowd) pop() {
	c.t.Helper()
	c.step(&c.owner)
	c.isPopping = c.owner.End == api.TakeOpen
	switch c.owner.End {
	case api.TakeOpen:
		return
	case api.TakeGot:
		c.popped = append(c.popped, c.owner.Got)
	default:
		c.empty++
	}
	c.owner = api.Taker{}
}

// steal is a step of a thief.
func (c *crowd) steal() {
	c.t.Helper()
	x := &c.thieves[c.by.next(len(c.thieves))]
	c.step(x)
	switch x.End {
	case api.TakeOpen:
		return
	case api.TakeGot:
		c.stolen = append(c.stolen, x.Got)
	case api.TakeLost:
		c.lost++
	case api.TakeNone:
		c.none++
	}
	*x = api.Taker{Steal: true}
}

// hold holds all that was got, and is there still, against what was pushed, while nobody pops.
func (c *crowd) hold() {
	c.t.Helper()
	all := slices.Concat(c.popped, c.stolen, Items(c.q))
	slices.Sort(all)
	if !slices.Equal(all, c.pushed) {
		c.t.Fatal("got twice, or lost", c.popped, c.stolen, c.q)
	}
	// Who steals gets the oldest one: what is stolen rises, whatever is popped.
	if !slices.IsSorted(c.stolen) || !slices.IsSorted(Items(c.q)) {
		c.t.Fatal("not in order", c.stolen, c.q)
	}
}

// P12.3: long mixes by chance of an owner's pushes and pops with the steps of up to eight thieves, on Rings of all lengths, from several Tops on: each number that was pushed was got once, or is there still.
func TestLongMixes(t *testing.T) {
	var lost, none, full, empty, popped, stolen int
	for _, size := range row(1, 2, 4, 8, 16, 32, 64) {
		for i, top := range row(0, 1, 63, 1<<32-20, api.MaxNum-5000) {
			for thieves := 1; thieves <= api.MaxCores; thieves++ {
				c := newCrowd(t, size+i+thieves, size, top, thieves)
				pushes := 1 + c.by.next(3)
				for range 800 {
					switch {
					case c.by.next(3) > 0:
						c.steal()
					case c.isPopping || c.by.next(4) >= pushes:
						c.pop()
					default:
						c.push()
					}
					if !c.isPopping {
						c.hold()
					}
				}
				lost, none, full, empty = lost+c.lost, none+c.none, full+c.full, empty+c.empty
				popped, stolen = popped+len(c.popped), stolen+len(c.stolen)
			}
		}
	}
	if min(lost, none, full, empty, popped, stolen) < 1000 {
		t.Error("too few of a kind", lost, none, full, empty, popped, stolen)
	}
}

// P12.3: numbers that are only stolen are got in the order in which they were pushed, none left out.
func TestOnlyStolen(t *testing.T) {
	for _, size := range row(1, 2, 4, 8, 16, 32, 64) {
		for thieves := 1; thieves <= api.MaxCores; thieves++ {
			c := newCrowd(t, 100+size*thieves, size, 7*size+thieves, thieves)
			for len(c.stolen) < 3*size+10 {
				if c.by.next(thieves+4) == 0 {
					c.push()
				} else {
					c.steal()
				}
				if !slices.Equal(slices.Concat(c.stolen, Items(c.q)), c.pushed) {
					t.Fatal(c.stolen, c.q, c.pushed)
				}
			}
		}
	}
}

// P12.3: numbers that are only popped are got in the order against that in which they were pushed.
func TestOnlyPopped(t *testing.T) {
	for _, size := range row(1, 2, 4, 8, 16, 32, 64) {
		for _, top := range row(0, 5, 64, api.MaxNum-100) {
			q := pushed(t, ring(top, top, make([]int, size)...), count(size, 10)...)
			for n := size - 1; n >= 0; n-- {
				x, a, e := Take(q, false)
				if a.Got != 10+n || a.End != api.TakeGot || e != api.OK || !slices.Equal(Items(x), count(n, 10)) {
					t.Fatal(size, top, x, a, int(e))
				}
				q = x
			}
			// The last one was taken by Top: both are one more than they were at first.
			if q.Top != top+1 || q.Bottom != top+1 {
				t.Error(size, top, q)
			}
			if x, a, e := Take(q, false); !equal(x, q) || a.End != api.TakeNone || a.Got != 0 || e != api.OK {
				t.Error(size, top, x, a, int(e))
			}
		}
	}
}
