package class

import (
	"math"
	"slices"
	"testing"

	"trefoil/api"
	"trefoil/dag"
	"trefoil/lower"
)

// edges is an edge from the first to the second number, from the third to the fourth, and so on.
func edges(ends ...int) []api.Edge {
	var l []api.Edge
	for i := 0; i+1 < len(ends); i += 2 {
		l = append(l, api.Edge{From: ends[i], To: ends[i+1]})
	}
	return l
}

// futures is a future of three numbers each: Maker, User, At.
func futures(n ...int) []api.Future {
	var l []api.Future
	for i := 0; i+2 < len(n); i += 3 {
		l = append(l, api.Future{Maker: n[i], User: n[i+1], At: n[i+2]})
	}
	return l
}

// of is a task of parts by their works, and all else that a part of the test gives it.
func of(works []int, change func(d *api.Desc)) api.Desc {
	d := api.Desc{Period: 64, Deadline: 60}
	for i, work := range works {
		d.Parts = append(d.Parts, api.Part{Op: api.Op(i % 6), Arg: i, Work: work})
	}
	if change != nil {
		change(&d)
	}
	return d
}

// alike is so many numbers of one worth.
func alike(count, n int) []int { return slices.Repeat([]int{n}, count) }

// row is numbers.
func row(n ...int) []int { return n }

// line is edges from each of so many parts to the next one.
func line(parts int) []api.Edge {
	var l []api.Edge
	for n := 1; n < parts; n++ {
		l = append(l, api.Edge{From: n - 1, To: n})
	}
	return l
}

// task is a task by chance, of parts by their works, in which no way leads round: all that waits stands, in one row of the parts, behind what it waits for.
func (c *chance) task(works []int, most int) api.Desc {
	d, count := of(works, nil), len(works)
	if count < 2 {
		return d
	}
	order := make([]int, count)
	for i := range order {
		j := c.next(i + 1)
		order[i], order[j] = order[j], i
	}
	two := func() (int, int) {
		b := 1 + c.next(count-1)
		return order[c.next(b)], order[b]
	}
	for range c.next(1 + min(most, api.MaxJoins)) {
		a, b := two()
		if e := (api.Edge{From: a, To: b}); !slices.Contains(d.Edges, e) {
			d.Edges = append(d.Edges, e)
		}
	}
	for range c.next(1 + min(most, api.MaxFutures)) {
		maker, user := two()
		at := 1 + c.next(works[user])
		clashes := func(f api.Future) bool { return f.User == user && f.At == at }
		if at < works[user] && !slices.ContainsFunc(d.Futures, clashes) {
			d.Futures = append(d.Futures, api.Future{Maker: maker, User: user, At: at})
		}
	}
	for range c.next(1 + min(most, api.MaxBarriers)) {
		cut := 1 + c.next(count-1)
		d.Barriers = append(d.Barriers, api.Barrier{In: c.some(order[:cut]), Out: c.some(order[cut:])})
	}
	return d
}

// some is one or more of a row, rising.
func (c *chance) some(row []int) []int {
	l := slices.Clone(row[:1])
	for _, n := range row[1:] {
		if c.next(3) == 0 {
			l = append(l, n)
		}
	}
	slices.Sort(l)
	return l
}

// works is works by chance, of at most so many parts, each up to a bound.
func (c *chance) works(parts, most int) []int {
	l := make([]int, 1+c.next(parts))
	for i := range l {
		l[i] = 1 + c.next(most)
	}
	return l
}

// times gives a task by chance a period, and a deadline.
func (c *chance) times(d api.Desc) api.Desc {
	d.Period = periods[c.next(len(periods))]
	d.Deadline = 1 + c.next(d.Period)
	return d
}

// free is a task all of whose parts go on as soon as they may: by when so much of a part's work is done, told by the chapters' words with no regard to nodes.
type free struct {
	d    api.Desc
	ends map[[2]int]int
}

// all is by when all of a part's work is done.
func (x free) all(part int) int { return x.end(part, x.d.Parts[part].Work) }

// end is by when so much of a part's work is done: from 1 on.
func (x free) end(part, much int) int {
	if end, ok := x.ends[[2]int{part, much}]; ok {
		return end
	}
	begin := 0
	if much > 1 {
		begin = x.end(part, much-1)
	}
	for _, e := range x.d.Edges {
		if much == 1 && e.To == part {
			begin = max(begin, x.all(e.From))
		}
	}
	for _, b := range x.d.Barriers {
		for _, in := range b.In {
			if much == 1 && slices.Contains(b.Out, part) {
				begin = max(begin, x.all(in)+1)
			}
		}
	}
	for _, f := range x.d.Futures {
		if f.User == part && f.At == much-1 {
			begin = max(begin, x.all(f.Maker))
		}
	}
	x.ends[[2]int{part, much}] = begin + 1
	return begin + 1
}

// shapeByWords is the shape of a task that may be, told from its parts, with no regard to nodes.
func shapeByWords(d api.Desc) api.Shape {
	x := free{d, map[[2]int]int{}}
	s := api.Shape{Total: len(d.Barriers), Most: min(1, len(d.Barriers)), Deadline: d.Deadline, Period: d.Period}
	for part, p := range d.Parts {
		step := 0
		for much := 1; much <= p.Work; much++ {
			s.Total++
			step++
			s.Most = max(s.Most, step)
			if slices.ContainsFunc(d.Futures, func(f api.Future) bool { return f.User == part && f.At == much }) {
				step = 0
			}
		}
		s.Long = max(s.Long, x.all(part))
	}
	return s
}

// longest is the most work of a way of a graph that ends with a node.
func longest(d api.Dag, n int, known map[int]int) int {
	if long, ok := known[n]; ok {
		return long
	}
	long := 0
	for _, e := range d.Edges {
		if e.To == n {
			long = max(long, longest(d, e.From, known))
		}
	}
	known[n] = long + d.Work[n]
	return known[n]
}

// shapeOfLow is the shape of a task, told from what it is lowered to.
func shapeOfLow(d api.Desc, low api.Low) api.Shape {
	s := api.Shape{Deadline: d.Deadline, Period: d.Period}
	known := map[int]int{}
	for n, work := range low.Dag.Work {
		s.Total += work
		s.Most = max(s.Most, work)
		s.Long = max(s.Long, longest(low.Dag, n, known))
	}
	return s
}

// shaped is the shape of a task that may be, held against the chapter's words.
func shaped(t *testing.T, d api.Desc) api.Shape {
	t.Helper()
	s, e := Shape(d)
	low, why := lower.Lower(d)
	if e != api.OK || why != api.OK {
		t.Fatal(d, int(e), int(why))
	}
	if want := shapeOfLow(d, low); s != want || s != shapeByWords(d) {
		t.Fatal(d, s, want, shapeByWords(d))
	}
	if s.Total != dag.Total(low.Dag) || s.Long != dag.Long(low.Dag) || s.Most != slices.Max(low.Dag.Work) {
		t.Fatal(d, s, low)
	}
	if Check(s) != api.OK {
		t.Fatal("a task's shape may not be", d, s)
	}
	return s
}

// full is a task of as much of each thing as there may be; no way leads round, since all rises.
func full() api.Desc {
	return of(alike(api.MaxParts, api.MaxPartWork), func(d *api.Desc) {
		for a := 0; len(d.Edges) < api.MaxJoins; a++ {
			for b := api.MaxParts - 1; b > a && len(d.Edges) < api.MaxJoins; b-- {
				d.Edges = append(d.Edges, api.Edge{From: a, To: b})
			}
		}
		for i := range api.MaxFutures {
			d.Futures = append(d.Futures, api.Future{Maker: i % 15, User: 15, At: 99 - i})
		}
		for i := range api.MaxBarriers {
			d.Barriers = append(d.Barriers, api.Barrier{In: row(i), Out: row(i+1, 15)})
		}
	})
}

// P14.1: the shapes of tasks by name: with and without edges, futures and barriers, and at the edges of the times.
func TestShape(t *testing.T) {
	for i, x := range []struct {
		works                    []int
		change                   func(d *api.Desc)
		total, long, most, d, of int
	}{
		// one part, and several that don't wait
		{row(1), nil, 1, 1, 1, 60, 64}, {row(100), nil, 100, 100, 100, 60, 64}, {row(3, 5, 4), nil, 12, 5, 5, 60, 64}, {row(7, 5, 4), nil, 16, 7, 7, 60, 64}, {row(3, 5, 9), nil, 17, 9, 9, 60, 64}, {alike(16, 100), nil, 1600, 100, 100, 60, 64}, {alike(16, 1), nil, 16, 1, 1, 60, 64},
		// edges: a line, which is all work; a fork and a join; ways of which the one with fewer parts is longer
		{row(3, 5, 4), func(d *api.Desc) { d.Edges = line(3) }, 12, 12, 5, 60, 64},
		{row(3, 5, 4), func(d *api.Desc) { d.Edges = edges(0, 2, 1, 2) }, 12, 9, 5, 60, 64},
		{row(3, 5, 4), func(d *api.Desc) { d.Edges = edges(2, 0, 2, 1) }, 12, 9, 5, 60, 64},
		{row(1, 2, 1, 9, 1), func(d *api.Desc) { d.Edges = edges(0, 1, 1, 2, 2, 4, 3, 4) }, 14, 10, 9, 60, 64},
		// the greatest node isn't on the longest way
		{row(4, 4, 7), func(d *api.Desc) { d.Edges = edges(1, 0) }, 15, 8, 7, 60, 64},
		// a future: the greatest step is the first, one in the middle, the last; the way leads over what the touch leaves
		{row(1, 9), func(d *api.Desc) { d.Futures = futures(0, 1, 6) }, 10, 9, 6, 60, 64},
		{row(8, 9), func(d *api.Desc) { d.Futures = futures(0, 1, 2) }, 17, 15, 8, 60, 64},
		{row(1, 9), func(d *api.Desc) { d.Futures = futures(0, 1, 2) }, 10, 9, 7, 60, 64},
		{row(1, 9), func(d *api.Desc) { d.Futures = futures(0, 1, 7, 0, 1, 2) }, 10, 9, 5, 60, 64},
		{row(4, 2), func(d *api.Desc) { d.Futures = futures(0, 1, 1) }, 6, 5, 4, 60, 64},
		{row(1, 3), func(d *api.Desc) { d.Futures = futures(0, 1, 1, 0, 1, 2) }, 4, 3, 1, 60, 64},
		{row(1, 100), func(d *api.Desc) { d.Futures = futures(0, 1, 99) }, 101, 100, 99, 60, 64},
		// a barrier counts for 1, on the way and beside it
		{row(3, 5), func(d *api.Desc) { d.Barriers = []api.Barrier{{In: row(0), Out: row(1)}} }, 9, 9, 5, 60, 64},
		{row(3, 5, 20), func(d *api.Desc) { d.Barriers = []api.Barrier{{In: row(1), Out: row(0)}} }, 29, 20, 20, 60, 64},
		{row(1, 1, 1), func(d *api.Desc) { d.Barriers = []api.Barrier{{In: row(0, 1), Out: row(2)}} }, 4, 3, 1, 60, 64},
		{row(2, 5, 3, 4), func(d *api.Desc) { d.Barriers = []api.Barrier{{In: row(0, 1), Out: row(2, 3)}} }, 15, 10, 5, 60, 64},
		{row(1, 1), func(d *api.Desc) {
			d.Barriers = []api.Barrier{{In: row(0), Out: row(1)}, {In: row(0), Out: row(1)}, {In: row(0), Out: row(1)}}
		}, 5, 3, 1, 60, 64},
		// all of these: a way of 2, 1, 4 and 5
		{row(2, 9, 4), func(d *api.Desc) {
			d.Period, d.Deadline = 64, 10
			d.Edges, d.Futures, d.Barriers = edges(0, 2), futures(2, 1, 4), []api.Barrier{{In: row(0), Out: row(2)}}
		}, 16, 12, 5, 10, 64},
		// the times at their edges
		{row(5), func(d *api.Desc) { d.Period, d.Deadline = 1, 1 }, 5, 5, 5, 1, 1},
		{row(5), func(d *api.Desc) { d.Period, d.Deadline = 4096, 4096 }, 5, 5, 5, 4096, 4096},
		{row(5), func(d *api.Desc) { d.Period, d.Deadline = 4096, 1 }, 5, 5, 5, 1, 4096},
		{row(5), func(d *api.Desc) { d.Period, d.Deadline = 4, 3 }, 5, 5, 5, 3, 4},
		// as much as there may be
		{alike(16, 100), func(d *api.Desc) { d.Edges = line(16) }, 1600, 1600, 100, 60, 64},
		{alike(16, 100), func(d *api.Desc) {
			d.Edges = line(16)
			for i := range 4 {
				d.Barriers = append(d.Barriers, api.Barrier{In: row(i), Out: row(i + 1)})
			}
		}, 1604, 1604, 100, 60, 64},
	} {
		d := of(x.works, x.change)
		want := shape(x.total, x.long, x.most, x.d, x.of)
		if s := shaped(t, d); s != want {
			t.Error(i, s, want)
		}
	}
	if s := shaped(t, full()); s.Total != 1604 || s.Deadline != 60 {
		t.Error(s)
	}
}

// P14.1: many tasks by chance, against what they are lowered to, and against the chapter's words; what is told of their shapes, too.
func TestManyTasks(t *testing.T) {
	c := chance(41)
	kinds, counts := map[api.Errno]int{}, [9]int{}
	touched, barred := 0, 0
	for i := range 3000 {
		d := c.times(c.task(c.works(16, 1+c.next(100)), 1+c.next(48)))
		s := shaped(t, d)
		if i%3 == 0 {
			// a deadline near that of one count of cores
			d.Period = 4096
			d.Deadline = s.Long + max(1, (s.Total-s.Long)/(1+c.next(9)))
			s = shaped(t, d)
		}
		holdWords(t, s)
		n, e := Cores(s)
		kinds[e]++
		counts[n]++
		touched, barred = touched+min(1, len(d.Futures)), barred+min(1, len(d.Barriers))
	}
	if kinds[api.OK] < 500 || kinds[api.ErrClassLong] < 500 || kinds[api.ErrClassMany] < 20 || slices.Min(counts[1:]) < 20 || touched < 1000 || barred < 1000 {
		t.Error("too few of a kind", kinds, counts, touched, barred)
	}
}

// fault is a task with one thing that may not be, and the error of that.
type fault struct {
	change func(d *api.Desc)
	want   api.Errno
}

// faults are by each of chapter 7's errors, in the order in which they are told.
func faults() []fault {
	return []fault{
		{func(d *api.Desc) { d.Parts = nil }, api.ErrDescMany},
		{func(d *api.Desc) { d.Parts = append(d.Parts, make([]api.Part, 14)...) }, api.ErrDescMany},
		{func(d *api.Desc) { d.Edges = append(d.Edges, make([]api.Edge, 48)...) }, api.ErrDescMany},
		{func(d *api.Desc) { d.Futures = append(d.Futures, make([]api.Future, 16)...) }, api.ErrDescMany},
		{func(d *api.Desc) { d.Barriers = append(d.Barriers, make([]api.Barrier, 4)...) }, api.ErrDescMany},
		{func(d *api.Desc) { d.Period = 48 }, api.ErrDescTime},
		{func(d *api.Desc) { d.Period = 8192 }, api.ErrDescTime},
		{func(d *api.Desc) { d.Period, d.Deadline = 0, 0 }, api.ErrDescTime},
		{func(d *api.Desc) { d.Deadline = 0 }, api.ErrDescTime},
		{func(d *api.Desc) { d.Deadline = 65 }, api.ErrDescTime},
		{func(d *api.Desc) { d.Deadline = math.MinInt }, api.ErrDescTime},
		{func(d *api.Desc) { d.Parts[2].Op = 6 }, api.ErrDescPart},
		{func(d *api.Desc) { d.Parts[2].Arg = -1 }, api.ErrDescPart},
		{func(d *api.Desc) { d.Parts[2].Work = 0 }, api.ErrDescPart},
		{func(d *api.Desc) { d.Parts[2].Work = 101 }, api.ErrDescPart},
		{func(d *api.Desc) { d.Edges[0].From = 3 }, api.ErrDescEdge},
		{func(d *api.Desc) { d.Edges[0].To = math.MinInt }, api.ErrDescEdge},
		{func(d *api.Desc) { d.Edges = append(d.Edges, d.Edges[0]) }, api.ErrDescEdge},
		{func(d *api.Desc) { d.Futures[0].At = 0 }, api.ErrDescFuture},
		{func(d *api.Desc) { d.Futures[0].Maker = math.MaxInt }, api.ErrDescFuture},
		{func(d *api.Desc) { d.Futures = append(d.Futures, d.Futures[0]) }, api.ErrDescFuture},
		{func(d *api.Desc) { d.Barriers[0].In = nil }, api.ErrDescBarrier},
		{func(d *api.Desc) { d.Barriers[0].Out = row(0, 2) }, api.ErrDescBarrier},
		{func(d *api.Desc) { d.Barriers[0].Out = row(3) }, api.ErrDescBarrier},
		{func(d *api.Desc) { d.Edges = append(d.Edges, edges(2, 1)...) }, api.ErrLowRound},
		{func(d *api.Desc) { d.Futures = append(d.Futures, futures(2, 1, 1)...) }, api.ErrLowRound},
		{func(d *api.Desc) { d.Barriers = append(d.Barriers, api.Barrier{In: row(2), Out: row(1)}) }, api.ErrLowRound},
	}
}

// sound is a task that may be, of one thing of each kind at least: its parts 0, 1 and 2 wait for each other in that order.
func sound() api.Desc {
	return of(row(2, 5, 4), func(d *api.Desc) {
		d.Edges, d.Futures, d.Barriers = edges(0, 1), futures(1, 2, 3), []api.Barrier{{In: row(0), Out: row(2)}}
	})
}

// holdFault holds that of a task just an error is told.
func holdFault(t *testing.T, d api.Desc, want api.Errno, what ...any) {
	t.Helper()
	s, e := Shape(d)
	if _, why := lower.Lower(d); e != want || why != want || s != (api.Shape{}) {
		t.Error(what, s, int(e), int(why), int(want))
	}
}

// P14.1, P1: tasks that may not be: each of chapter 7's errors alone, and of two of different kinds the first one; nothing else is told.
func TestWrongTasks(t *testing.T) {
	if s := shaped(t, sound()); s != shape(12, 8, 5, 60, 64) {
		t.Error(s)
	}
	holdFault(t, api.Desc{}, api.ErrDescMany)
	l := faults()
	for i, x := range l {
		d := sound()
		x.change(&d)
		holdFault(t, d, x.want, i)
		for j, y := range l[i+1:] {
			if y.want == x.want {
				continue
			}
			d := sound()
			y.change(&d)
			x.change(&d)
			holdFault(t, d, x.want, i, i+1+j)
		}
	}
	big := sound()
	big.Parts = make([]api.Part, 1<<20)
	holdFault(t, big, api.ErrDescMany)
}

// roomy is a list with spare room, in which marks stand.
func roomy[T any](l []T, mark T) []T {
	all := append(append([]T{}, l...), mark, mark, mark)
	return all[:len(l)]
}

// isKept is whether a list of spare room is as it was: what stands in it, and the marks.
func isKept[T comparable](l, was []T, mark T) bool {
	all := l[:len(l)+3]
	return slices.Equal(all, append(append([]T{}, was...), mark, mark, mark))
}

// P14.1: a task that is handed in is left as it was, the spare room of its lists included, whether it may be or not.
func TestLeftAlone(t *testing.T) {
	part, edge, future := api.Part{Op: 77}, api.Edge{From: 77}, api.Future{At: 77}
	hold := func(was api.Desc) {
		t.Helper()
		d := was
		d.Parts, d.Edges, d.Futures = roomy(was.Parts, part), roomy(was.Edges, edge), roomy(was.Futures, future)
		d.Barriers = slices.Clone(was.Barriers)
		for i, b := range was.Barriers {
			d.Barriers[i] = api.Barrier{In: roomy(b.In, 77), Out: roomy(b.Out, 77)}
		}
		s, e := Shape(d)
		again, why := Shape(d)
		if s != again || e != why || d.Period != was.Period || d.Deadline != was.Deadline ||
			!isKept(d.Parts, was.Parts, part) || !isKept(d.Edges, was.Edges, edge) || !isKept(d.Futures, was.Futures, future) {
			t.Fatal(was, d)
		}
		for i, b := range was.Barriers {
			if !isKept(d.Barriers[i].In, b.In, 77) || !isKept(d.Barriers[i].Out, b.Out, 77) {
				t.Fatal(was, d)
			}
		}
	}
	hold(full())
	hold(sound())
	for _, x := range faults() {
		d := sound()
		x.change(&d)
		hold(d)
	}
	c := chance(5)
	for range 300 {
		hold(c.times(c.task(c.works(16, 40), 20)))
	}
}
