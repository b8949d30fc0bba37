package steal

import (
	"math"
	"slices"
	"testing"

	"trefoil/api"
	"trefoil/dag"
	"trefoil/deque"
	"trefoil/list"
	"trefoil/sched"
)

// edges is an edge from the first to the second number, from the third to the fourth, and so on.
func edges(ends ...int) []api.Edge {
	var l []api.Edge
	for i := 0; i+1 < len(ends); i += 2 {
		l = append(l, api.Edge{From: ends[i], To: ends[i+1]})
	}
	return l
}

// row is its numbers.
func row(n ...int) []int { return n }

// alike is so many numbers of one worth.
func alike(count, n int) []int { return slices.Repeat([]int{n}, count) }

// graph is so many nodes, of works that are no needs, and edges.
func graph(count int, ends ...int) api.Dag {
	d := api.Dag{Edges: edges(ends...)}
	for n := range count {
		d.Work = append(d.Work, n*37%(api.MaxWork+1))
	}
	return d
}

// line is so many nodes, each behind the one ahead of it.
func line(count int) api.Dag {
	d := graph(count)
	for n := 1; n < count; n++ {
		d.Edges = append(d.Edges, api.Edge{From: n - 1, To: n})
	}
	return d
}

// fork is 0 ahead of so many nodes, which are ahead of the last one.
func fork(many int) api.Dag {
	d := graph(many + 2)
	for n := 1; n <= many; n++ {
		d.Edges = append(d.Edges, api.Edge{From: n, To: many + 1}, api.Edge{From: 0, To: n})
	}
	return d
}

// diamond is 0 ahead of 1 and 2, both of them ahead of 3, and 4 alone.
func diamond() (api.Dag, []int) { return graph(5, 0, 1, 0, 2, 1, 3, 2, 3), row(2, 1, 3, 2, 4) }

// far are numbers far from all that may be, and such as look small when they are cut to 32 bits.
func far() []int { return row(math.MinInt, -1<<32, 1<<32, 1<<32+1, math.MaxInt) }

// chance hands out numbers below a bound, always the same ones.
type chance uint64

func (c *chance) next(below int) int {
	*c = *c*6364136223846793005 + 1442695040888963407
	return int(uint64(*c)>>33) % below
}

// graph is so many nodes, and up to so many edges between them that lead no way round: all lead rightwards in a row of the nodes by chance.
func (c *chance) graph(count, most int) api.Dag {
	names := make([]int, count)
	for i := range names {
		j := c.next(i + 1)
		names[i], names[j] = names[j], i
	}
	d := graph(count)
	for range c.next(most + 1) {
		a, b := c.next(count), c.next(count)
		e := api.Edge{From: names[min(a, b)], To: names[max(a, b)]}
		if a != b && !slices.Contains(d.Edges, e) {
			d.Edges = append(d.Edges, e)
		}
	}
	return d
}

// needs is so many needs, each from 1 on.
func (c *chance) needs(count, most int) []int {
	l := make([]int, count)
	for n := range l {
		l[n] = 1 + c.next(most)
	}
	return l
}

// picks is up to so many picks, some of them below 0, and above how many there are.
func (c *chance) picks(most int) []int {
	l := make([]int, c.next(most+1))
	for i := range l {
		l[i] = c.next(14) - 3
		if c.next(50) == 0 {
			l[i] = far()[c.next(len(far()))]
		}
	}
	return l
}

// filled is a deque of a gang from a place on, with those numbers.
func filled(top int, nodes ...int) api.Deque {
	q := api.Deque{Ring: make([]int, 64), Top: top, Bottom: top + len(nodes)}
	for i, n := range nodes {
		q.Ring[(top+i)%64] = n
	}
	return q
}

// gang is a crew, whose takers are new, with deques.
func gang(on, left []int, deques ...api.Deque) api.Gang {
	return api.Gang{Crew: api.Crew{On: on, Left: left}, Deques: deques, Takers: make([]api.Taker, len(on)), From: make([]int, len(on))}
}

// popper and thief are takers at a step: their Top, Bottom and Got.
func popper(at, top, bottom, got int) api.Taker {
	return api.Taker{At: at, Top: top, Bottom: bottom, Got: got}
}

func thief(at, top, bottom, got int) api.Taker {
	return api.Taker{Steal: true, At: at, Top: top, Bottom: bottom, Got: got}
}

// cloned is a gang that shares nothing with another one.
func cloned(g api.Gang) api.Gang {
	var x api.Gang
	x.On, x.Left = append(x.On, g.On...), append(x.Left, g.Left...)
	x.Takers, x.From = append(x.Takers, g.Takers...), append(x.From, g.From...)
	for _, q := range g.Deques {
		x.Deques = append(x.Deques, api.Deque{Ring: slices.Clone(q.Ring), Top: q.Top, Bottom: q.Bottom})
	}
	return x
}

// but is a gang with something changed.
func but(g api.Gang, change func(g *api.Gang)) api.Gang {
	g = cloned(g)
	change(&g)
	return g
}

// equal is whether all of two gangs is the same.
func equal(a, b api.Gang) bool {
	isSame := func(p, q api.Deque) bool {
		return slices.Equal(p.Ring, q.Ring) && p.Top == q.Top && p.Bottom == q.Bottom
	}
	return slices.Equal(a.On, b.On) && slices.Equal(a.Left, b.Left) && slices.EqualFunc(a.Deques, b.Deques, isSame) &&
		slices.Equal(a.Takers, b.Takers) && slices.Equal(a.From, b.From)
}

// checkByWords is what is wrong with a gang, by the chapter's words.
func checkByWords(d api.Dag, g api.Gang) api.Errno {
	if e := list.Check(d, g.Crew); e != api.OK {
		return e
	}
	cores := len(g.On)
	isRight := len(g.Deques) == cores && len(g.Takers) == cores && len(g.From) == cores
	for k := 0; isRight && k < cores; k++ {
		t := g.Takers[k]
		isRight = deque.Check(g.Deques[k]) == api.OK && len(g.Deques[k].Ring) == 64
		isRight = isRight && t.End == api.TakeOpen && 0 <= g.From[k] && g.From[k] <= cores-1
		isRight = isRight && (t.Steal && g.From[k] != 0 || !t.Steal && g.From[k] == 0)
		if g.On[k] != -1 {
			isRight = isRight && t.At == 0 && t.Top == 0 && t.Bottom == 0 && t.Got == 0 && !t.Steal && g.From[k] == 0
		}
	}
	if !isRight {
		return api.ErrGangForm
	}
	return api.OK
}

// wantsByWords is the cores that look for nodes.
func wantsByWords(d api.Dag, g api.Gang) []int {
	if checkByWords(d, g) != api.OK {
		return nil
	}
	items := 0
	for _, q := range g.Deques {
		items += len(deque.Items(q))
	}
	var l []int
	for k, t := range g.Takers {
		if g.On[k] == -1 && (t.At != 0 || items > 0) {
			l = append(l, k)
		}
	}
	return l
}

// stepByWords is what a step of a core comes to.
func stepByWords(d api.Dag, g api.Gang, core int) (api.Gang, api.Errno) {
	if e := checkByWords(d, g); e != api.OK {
		return api.Gang{}, e
	}
	if !slices.Contains(row(0, 1, 2, 3, 4, 5, 6, 7)[:len(g.On)], core) {
		return api.Gang{}, api.ErrGangCore
	}
	if g.On[core] >= 0 {
		return api.Gang{}, api.ErrGangBusy
	}
	behind := core
	for range g.From[core] {
		if behind++; behind == len(g.On) {
			behind = 0
		}
	}
	q, x, e := deque.Step(g.Deques[behind], g.Takers[core])
	if e != api.OK || x.End == api.TakeGot && !slices.Contains(list.Ready(d, g.Crew), x.Got) {
		return api.Gang{}, api.ErrGangForm
	}
	return but(g, func(g *api.Gang) {
		g.Deques[behind], g.Takers[core] = q, x
		switch x.End {
		case api.TakeGot:
			g.On[core], g.Takers[core], g.From[core] = x.Got, api.Taker{}, 0
		case api.TakeNone, api.TakeLost:
			if g.From[core]++; g.From[core] == len(g.On) {
				g.From[core] = 0
			}
			g.Takers[core] = api.Taker{Steal: g.From[core] > 0}
		}
	}), api.OK
}

// calmByWords is steps till nobody looks for nodes.
func calmByWords(d api.Dag, g api.Gang, picks []int) (api.Gang, int, api.Errno) {
	if e := checkByWords(d, g); e != api.OK {
		return api.Gang{}, 0, e
	}
	last := -1
	for steps := 0; ; steps++ {
		l := wantsByWords(d, g)
		if len(l) == 0 {
			return cloned(g), steps, api.OK
		}
		behind := slices.DeleteFunc(slices.Clone(l), func(k int) bool { return k <= last })
		switch {
		case steps < len(picks) && picks[steps] < 0:
			last = l[0]
		case steps < len(picks):
			last = l[picks[steps]%len(l)]
		case len(behind) > 0:
			last = behind[0]
		default:
			last = l[0]
		}
		var e api.Errno
		if g, e = stepByWords(d, g, last); e != api.OK {
			return api.Gang{}, 0, e
		}
	}
}

// tickByWords is what a tick comes to.
func tickByWords(d api.Dag, g api.Gang) (api.Gang, []int, api.Errno) {
	if e := checkByWords(d, g); e != api.OK {
		return api.Gang{}, nil, e
	}
	x := cloned(g)
	var done []int
	x.Crew, done, _ = list.Tick(d, g.Crew)
	var pushed []int
	for k, n := range g.On {
		if n == -1 || x.On[k] == n {
			continue
		}
		for s := range d.Work {
			isBehind := slices.Contains(d.Edges, api.Edge{From: n, To: s})
			if !isBehind || slices.Contains(pushed, s) || !slices.Contains(list.Ready(d, x.Crew), s) {
				continue
			}
			var e api.Errno
			if x.Deques[k], e = deque.Push(x.Deques[k], s); e != api.OK {
				return api.Gang{}, nil, api.ErrGangForm
			}
			pushed = append(pushed, s)
		}
	}
	return x, done, api.OK
}

// newByWords is a gang that has done nothing.
func newByWords(d api.Dag, need []int, cores int) (api.Gang, api.Errno) {
	c, e := list.New(d, need, cores)
	if e != api.OK {
		return api.Gang{}, e
	}
	g := gang(c.On, c.Left)
	for k := range cores {
		var nodes []int
		for n := range need {
			if n%cores == k && len(dag.Preds(d, n)) == 0 {
				nodes = append(nodes, n)
			}
		}
		g.Deques = append(g.Deques, filled(0, nodes...))
	}
	return g, api.OK
}

// runByWords is the whole schedule, how many steps there were, and how many in that Calm that had the most.
func runByWords(d api.Dag, need []int, cores int, picks []int) (rows api.Trace, all, most int, e api.Errno) {
	g, e := newByWords(d, need, cores)
	sum := 0
	for _, n := range need {
		sum += n
	}
	if e == api.OK && sum > 4096 {
		e = api.ErrSchedForm
	}
	if e != api.OK {
		return nil, 0, 0, e
	}
	for slices.ContainsFunc(g.Left, func(n int) bool { return n != 0 }) {
		steps := 0
		g, steps, e = calmByWords(d, g, picks)
		if e != api.OK {
			return nil, 0, 0, e
		}
		for i := 0; i < steps && len(picks) > 0; i++ {
			picks = picks[1:]
		}
		all, most, rows = all+steps, max(most, steps), append(rows, slices.Clone(g.On))
		if g, _, e = tickByWords(d, g); e != api.OK {
			return nil, 0, 0, e
		}
	}
	return rows, all, most, api.OK
}

// hold holds what all calls tell of a gang against the chapter's words, Calm by some picks: Check's error.
func hold(t *testing.T, d api.Dag, g api.Gang, picks ...[]int) api.Errno {
	t.Helper()
	want := checkByWords(d, g)
	if e := Check(d, g); e != want {
		t.Error("Check", d.Edges, g, int(e), int(want))
	}
	if l, want := Wants(d, g), wantsByWords(d, g); !slices.Equal(l, want) {
		t.Error("Wants", d.Edges, g, l, want)
	}
	for _, core := range append(far(), -2, -1, 0, 1, 2, 3, 4, 5, 6, 7, 8, 9) {
		x, e := Step(d, g, core)
		if y, want := stepByWords(d, g, core); !equal(x, y) || e != want {
			t.Error("Step", d.Edges, g, core, x, int(e), y, int(want))
		}
	}
	for _, l := range append(picks, nil) {
		x, steps, e := Calm(d, g, l)
		if y, many, want := calmByWords(d, g, l); !equal(x, y) || steps != many || e != want {
			t.Error("Calm", d.Edges, g, l, x, steps, int(e), y, many, int(want))
		}
	}
	x, done, e := Tick(d, g)
	if y, l, want := tickByWords(d, g); !equal(x, y) || !slices.Equal(done, l) || e != want {
		t.Error("Tick", d.Edges, g, x, done, int(e), y, l, int(want))
	}
	return want
}

// holdNew holds New, and Run by some picks, against the chapter's words: New's error.
func holdNew(t *testing.T, d api.Dag, need []int, cores int, picks ...[]int) api.Errno {
	t.Helper()
	g, e := New(d, need, cores)
	if x, want := newByWords(d, need, cores); !equal(g, x) || e != want {
		t.Error("New", d.Edges, need, cores, g, int(e), x, int(want))
	}
	for _, l := range append(picks, nil) {
		rows, steps, e := Run(d, need, cores, l)
		if t2, many, _, want := runByWords(d, need, cores, l); !slices.EqualFunc(rows, t2, slices.Equal) || steps != many || e != want {
			t.Error("Run", d.Edges, need, cores, l, rows, steps, int(e), t2, many, int(want))
		}
	}
	return e
}

// holdFollows holds the schedule of Run against P13.5, by chapter 10's calls: it is told.
func holdFollows(t *testing.T, d api.Dag, need []int, cores int, picks []int) api.Trace {
	t.Helper()
	rows, steps, e := Run(d, need, cores, picks)
	if e != api.OK || sched.Check(d, need, cores, rows) != api.OK || !sched.Greedy(d, need, cores, rows) {
		t.Error("may not be, or isn't greedy", d.Edges, need, cores, picks, rows, int(e))
	}
	ends, last, all := sched.Ends(d, need, cores, rows), 0, 0
	for n, ticks := range need {
		last, all = max(last, ends[n]), all+ticks
		if ends[n] < 0 {
			t.Error("not done", n, d.Edges, need, cores, picks, rows)
		}
	}
	if len(rows) != last || len(rows) > sched.Bound(d, need, cores) || sched.Busy(rows) != all {
		t.Error("too long, or ticks that aren't needed", d.Edges, need, cores, picks, rows)
	}
	// Who gets a node takes two steps at least.
	if steps < 2*len(need) {
		t.Error("too few steps", d.Edges, need, cores, picks, steps)
	}
	return rows
}
