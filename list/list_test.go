package list

import (
	"math"
	"slices"
	"testing"

	"trefoil/api"
	"trefoil/sched"
)

// edges is an edge from the first to the second number, from the third to the fourth, and so on.
func edges(ends ...int) []api.Edge {
	var l []api.Edge
	for i := 0; i+1 < len(ends); i += 2 {
		l = append(l, api.Edge{From: ends[i], To: ends[i+1]})
	}
	return l
}

// row is its numbers.
func row(n ...int) []int { return n }

// alike is so many numbers of one worth.
func alike(count, n int) []int { return slices.Repeat([]int{n}, count) }

// graph is so many nodes, of works that are no needs, and edges.
func graph(count int, ends ...int) api.Dag {
	d := api.Dag{Edges: edges(ends...)}
	for n := range count {
		d.Work = append(d.Work, n*37%(api.MaxWork+1))
	}
	return d
}

// line is so many nodes, each behind the one ahead of it.
func line(count int) api.Dag {
	d := graph(count)
	for n := 1; n < count; n++ {
		d.Edges = append(d.Edges, api.Edge{From: n - 1, To: n})
	}
	return d
}

// diamond is 0 ahead of 1 and 2, both of them ahead of 3, and 4 alone.
func diamond() (api.Dag, []int) { return graph(5, 0, 1, 0, 2, 1, 3, 2, 3), row(2, 1, 3, 2, 4) }

// crew is what is on the cores, and what is left of the nodes.
func crew(on, left []int) api.Crew { return api.Crew{On: on, Left: left} }

// cloned is a crew that shares nothing with another one.
func cloned(c api.Crew) api.Crew { return crew(slices.Clone(c.On), slices.Clone(c.Left)) }

// far are numbers far from all that may be, and such as look small when they are cut to 32 bits.
func far() []int { return row(math.MinInt, -1<<32, 1<<32, 1<<32+1, math.MaxInt) }

// chance hands out numbers below a bound, always the same ones.
type chance uint64

func (c *chance) next(below int) int {
	*c = *c*6364136223846793005 + 1442695040888963407
	return int(uint64(*c)>>33) % below
}

// graph is so many nodes, and up to so many edges between them that lead no way round: all lead rightwards in a row of the nodes by chance.
func (c *chance) graph(count, most int) api.Dag {
	names := make([]int, count)
	for i := range names {
		j := c.next(i + 1)
		names[i], names[j] = names[j], i
	}
	d := graph(count)
	for range c.next(most + 1) {
		a, b := c.next(count), c.next(count)
		e := api.Edge{From: names[min(a, b)], To: names[max(a, b)]}
		if a != b && !slices.Contains(d.Edges, e) {
			d.Edges = append(d.Edges, e)
		}
	}
	return d
}

// needs is so many needs, each from 1 on.
func (c *chance) needs(count, most int) []int {
	l := make([]int, count)
	for n := range l {
		l[n] = 1 + c.next(most)
	}
	return l
}

// isFree is whether of each node From which an edge leads to one none is left.
func isFree(d api.Dag, left []int, n int) bool {
	return !slices.ContainsFunc(d.Edges, func(e api.Edge) bool { return e.To == n && left[e.From] != 0 })
}

// mayBe is whether a crew may be, of a graph that may be, by the chapter's words.
func mayBe(d api.Dag, c api.Crew) bool {
	if len(c.On) < 1 || len(c.On) > 8 || len(c.Left) != len(d.Work) {
		return false
	}
	for _, left := range c.Left {
		if left < 0 || left > 1000 {
			return false
		}
	}
	onHow := make([]int, len(c.Left))
	for _, n := range c.On {
		if n == -1 {
			continue
		}
		if n < 0 || n >= len(c.Left) || c.Left[n] == 0 {
			return false
		}
		onHow[n]++
	}
	for n, many := range onHow {
		if many > 1 || (many == 1 || c.Left[n] == 0) && !isFree(d, c.Left, n) {
			return false
		}
	}
	return true
}

// readyByWords is the nodes that are ready, of a crew that may be.
func readyByWords(d api.Dag, c api.Crew) []int {
	var l []int
	for n, left := range c.Left {
		if left > 0 && !slices.Contains(c.On, n) && isFree(d, c.Left, n) {
			l = append(l, n)
		}
	}
	return l
}

// fillByWords is the crew, core by core.
func fillByWords(d api.Dag, c api.Crew) api.Crew {
	c = cloned(c)
	for core := range c.On {
		if l := readyByWords(d, c); c.On[core] == -1 && len(l) > 0 {
			c.On[core] = slices.Min(l)
		}
	}
	return c
}

// tickByWords is the crew, and who is done, node by node.
func tickByWords(c api.Crew) (api.Crew, []int) {
	var done []int
	was := c
	c = cloned(c)
	for n := range c.Left {
		core := slices.Index(was.On, n)
		if core < 0 {
			continue
		}
		c.Left[n] = was.Left[n] - 1
		if was.Left[n] == 1 {
			c.On[core] = -1
			done = append(done, n)
		}
	}
	return c, done
}

// runByWords is the whole schedule.
func runByWords(d api.Dag, need []int, cores int) api.Trace {
	var t api.Trace
	c := crew(alike(cores, -1), slices.Clone(need))
	for slices.ContainsFunc(c.Left, func(left int) bool { return left != 0 }) {
		c = fillByWords(d, c)
		t = append(t, slices.Clone(c.On))
		c, _ = tickByWords(c)
	}
	return t
}

// equal is whether all of two crews is the same.
func equal(a, b api.Crew) bool { return slices.Equal(a.On, b.On) && slices.Equal(a.Left, b.Left) }

// answer is what the calls tell of a crew.
type answer struct {
	e              api.Errno
	ready          []int
	filled, ticked api.Crew
	done           []int
}

// byWords is what the calls have to tell of a crew, of a graph that may be.
func byWords(d api.Dag, c api.Crew) answer {
	if !mayBe(d, c) {
		return answer{e: api.ErrCrewForm}
	}
	ticked, done := tickByWords(c)
	return answer{ready: readyByWords(d, c), filled: fillByWords(d, c), ticked: ticked, done: done}
}

// hold holds what all calls tell of a crew against what they have to.
func hold(t *testing.T, d api.Dag, c api.Crew, want answer) {
	t.Helper()
	if e := Check(d, c); e != want.e {
		t.Error("Check", d.Edges, c, int(e), int(want.e))
	}
	if l := Ready(d, c); !slices.Equal(l, want.ready) {
		t.Error("Ready", d.Edges, c, l, want.ready)
	}
	if x, e := Fill(d, c); !equal(x, want.filled) || e != want.e {
		t.Error("Fill", d.Edges, c, x, int(e), want.filled, int(want.e))
	}
	if x, done, e := Tick(d, c); !equal(x, want.ticked) || !slices.Equal(done, want.done) || e != want.e {
		t.Error("Tick", d.Edges, c, x, done, int(e), want.ticked, want.done, int(want.e))
	}
}

// holdRun holds New and Run against what they have to tell of needs and cores: an error, or the schedule.
func holdRun(t *testing.T, d api.Dag, need []int, cores int, want api.Trace, wantE api.Errno) {
	t.Helper()
	c, e := New(d, need, cores)
	first := api.Crew{}
	if wantE == api.OK {
		first = crew(alike(cores, -1), need)
	}
	if !equal(c, first) || e != wantE {
		t.Error("New", d.Edges, need, cores, c, int(e), int(wantE))
	}
	if rows, e := Run(d, need, cores); !slices.EqualFunc(rows, want, slices.Equal) || e != wantE {
		t.Error("Run", d.Edges, need, cores, rows, int(e), want, int(wantE))
	}
}

// holdFollows holds the schedule of Run against P11.4, by chapter 10's calls.
func holdFollows(t *testing.T, d api.Dag, need []int, cores int) {
	t.Helper()
	rows, e := Run(d, need, cores)
	if e != api.OK || sched.Check(d, need, cores, rows) != api.OK || !sched.Greedy(d, need, cores, rows) {
		t.Error("may not be, or isn't greedy", d.Edges, need, cores, rows, int(e))
	}
	ends, last, all := sched.Ends(d, need, cores, rows), 0, 0
	for n, ticks := range need {
		last, all = max(last, ends[n]), all+ticks
		if ends[n] < 0 {
			t.Error("not done", n, d.Edges, need, cores, rows)
		}
	}
	if len(rows) != last || len(rows) > sched.Bound(d, need, cores) || sched.Busy(rows) != all {
		t.Error("too long, or ticks that aren't needed", d.Edges, need, cores, rows)
	}
}

// P11.1 to P11.4: the chapter's example, whole and step by step.
func TestExample(t *testing.T) {
	d, need := graph(3), row(3, 1, 1)
	holdRun(t, d, need, 2, api.Trace{{0, 1}, {0, 2}, {0, -1}}, api.OK)
	holdFollows(t, d, need, 2)
	c, e := New(d, need, 2)
	if e != api.OK {
		t.Fatal(int(e))
	}
	for i, want := range []answer{
		{ready: row(0, 1, 2), filled: crew(row(0, 1), row(3, 1, 1)), done: row(1), ticked: crew(row(0, -1), row(2, 0, 1))},
		{ready: row(2), filled: crew(row(0, 2), row(2, 0, 1)), done: row(2), ticked: crew(row(0, -1), row(1, 0, 0))},
		{filled: crew(row(0, -1), row(1, 0, 0)), done: row(0), ticked: crew(row(-1, -1), row(0, 0, 0))},
	} {
		l := Ready(d, c)
		filled, e1 := Fill(d, c)
		ticked, done, e2 := Tick(d, filled)
		if !slices.Equal(l, want.ready) || !equal(filled, want.filled) || !equal(ticked, want.ticked) || !slices.Equal(done, want.done) || e1 != api.OK || e2 != api.OK {
			t.Error(i, l, filled, ticked, done, int(e1), int(e2))
		}
		c = ticked
	}
	hold(t, d, c, answer{filled: c, ticked: c})
}

// P11.3, P11.4: schedules by name, of graphs of several edges, on one core and on several, and on more than there are nodes.
func TestRuns(t *testing.T) {
	mixed, needs := diamond()
	for i, x := range []struct {
		d    api.Dag
		need []int
		t    api.Trace
	}{
		{graph(1), row(1), api.Trace{{0}}},
		{graph(1), row(2), api.Trace{{0, -1, -1}, {0, -1, -1}}},
		{graph(3), row(1, 2, 1), api.Trace{{0}, {1}, {1}, {2}}},
		// three edges, one behind the other, against the numbers' order
		{graph(4, 3, 2, 2, 1, 1, 0), row(1, 1, 2, 1), api.Trace{{3, -1}, {2, -1}, {2, -1}, {1, -1}, {0, -1}}},
		// the least node that is ready goes first, whatever it needs, and whatever it has ahead of it
		{graph(4, 3, 0), row(1, 1, 1, 1), api.Trace{{1}, {2}, {3}, {0}}},
		{graph(4, 3, 0), row(2, 2, 3, 1), api.Trace{{1, 2}, {1, 2}, {3, 2}, {0, -1}, {0, -1}}},
		// the diamond: on one, on two, on three, on more cores than nodes
		{mixed, row(1, 1, 2, 1, 1), api.Trace{{0}, {1}, {2}, {2}, {3}, {4}}},
		{mixed, needs, api.Trace{{0, 4}, {0, 4}, {1, 4}, {2, 4}, {2, -1}, {2, -1}, {3, -1}, {3, -1}}},
		{mixed, needs, api.Trace{{0, 4, -1}, {0, 4, -1}, {1, 4, 2}, {-1, 4, 2}, {-1, -1, 2}, {3, -1, -1}, {3, -1, -1}}},
		{mixed, row(1, 1, 1, 1, 1), api.Trace{{0, 4, -1, -1, -1, -1}, {1, 2, -1, -1, -1, -1}, {3, -1, -1, -1, -1, -1}}},
		// more nodes than cores begin at once, and what is behind two of them begins behind the later one
		{graph(5, 0, 4, 1, 4), row(2, 3, 1, 1, 1), api.Trace{{0, 1, 2}, {0, 1, 3}, {-1, 1, -1}, {4, -1, -1}}},
		{graph(9), alike(9, 1), api.Trace{{0, 1, 2, 3, 4, 5, 6, 7}, {8, -1, -1, -1, -1, -1, -1, -1}}},
	} {
		cores := len(x.t[0])
		holdRun(t, x.d, x.need, cores, x.t, api.OK)
		holdFollows(t, x.d, x.need, cores)
		if t.Failed() {
			t.Fatal(i)
		}
	}
}

// P11.1, P11.2: crews by name: idle, partly and wholly at work, filled, behind a tick; what they have ready, and who is done.
func TestCrews(t *testing.T) {
	mixed, needs := diamond()
	for i, x := range []struct {
		d    api.Dag
		c    api.Crew
		want answer
	}{
		// idle, at first: a tick does nothing
		{mixed, crew(row(-1), needs), answer{
			ready: row(0, 4), filled: crew(row(0), needs), ticked: crew(row(-1), needs)}},
		{mixed, crew(row(-1, -1, -1), needs), answer{
			ready: row(0, 4), filled: crew(row(0, 4, -1), needs), ticked: crew(row(-1, -1, -1), needs)}},
		// idle, in between: 0 is done, and so 1 and 2 are ready
		{mixed, crew(row(-1, -1), row(0, 1, 3, 2, 4)), answer{
			ready: row(1, 2, 4), filled: crew(row(1, 2), row(0, 1, 3, 2, 4)), ticked: crew(row(-1, -1), row(0, 1, 3, 2, 4))}},
		// partly at work: what runs isn't ready, nor what waits for it, however little of it is left
		{mixed, crew(row(-1, 0, -1), row(1, 1, 3, 2, 4)), answer{
			ready: row(4), filled: crew(row(4, 0, -1), row(1, 1, 3, 2, 4)), ticked: crew(row(-1, -1, -1), row(0, 1, 3, 2, 4)), done: row(0)}},
		{mixed, crew(row(-1, 4), needs), answer{
			ready: row(0), filled: crew(row(0, 4), needs), ticked: crew(row(-1, 4), row(2, 1, 3, 2, 3))}},
		// cores that have nothing between others: the least node goes to the first of them
		{graph(6), crew(row(5, -1, 0, -1, -1), row(2, 1, 1, 1, 0, 2)), answer{
			ready: row(1, 2, 3), filled: crew(row(5, 1, 0, 2, 3), row(2, 1, 1, 1, 0, 2)), ticked: crew(row(5, -1, 0, -1, -1), row(1, 1, 1, 1, 0, 1))}},
		// a node of which some ran already, but that is on no core, is ready too: the crew doesn't know what it needed
		{graph(2), crew(row(-1), row(1, 1000)), answer{
			ready: row(0, 1), filled: crew(row(0), row(1, 1000)), ticked: crew(row(-1), row(1, 1000))}},
		// wholly at work, and something is ready: nobody takes it
		{mixed, crew(row(4, 0), needs), answer{
			filled: crew(row(4, 0), needs), ticked: crew(row(4, 0), row(1, 1, 3, 2, 3))}},
		{mixed, crew(row(2), row(0, 1, 3, 2, 4)), answer{
			ready: row(1, 4), filled: crew(row(2), row(0, 1, 3, 2, 4)), ticked: crew(row(2), row(0, 1, 2, 2, 4))}},
		// something is idle, and nothing ready: all waits, or runs, or is done
		{mixed, crew(row(-1, 2, -1), row(0, 0, 1, 2, 0)), answer{
			filled: crew(row(-1, 2, -1), row(0, 0, 1, 2, 0)), ticked: crew(row(-1, -1, -1), row(0, 0, 0, 2, 0)), done: row(2)}},
		// nothing is left
		{mixed, crew(row(-1, -1), alike(5, 0)), answer{
			filled: crew(row(-1, -1), alike(5, 0)), ticked: crew(row(-1, -1), alike(5, 0))}},
		// one is done, and one goes on
		{mixed, crew(row(1, 2, 4), row(0, 1, 2, 2, 2)), answer{
			filled: crew(row(1, 2, 4), row(0, 1, 2, 2, 2)), ticked: crew(row(-1, 2, 4), row(0, 0, 1, 2, 1)), done: row(1)}},
		// several are done at once: they are told rising, on whatever cores they were
		{mixed, crew(row(4, 2, 1), row(0, 1, 1, 2, 1)), answer{
			filled: crew(row(4, 2, 1), row(0, 1, 1, 2, 1)), ticked: crew(row(-1, -1, -1), row(0, 0, 0, 2, 0)), done: row(1, 2, 4)}},
		{graph(4), crew(row(3, 0, 2, 1), row(1, 1, 2, 1)), answer{
			filled: crew(row(3, 0, 2, 1), row(1, 1, 2, 1)), ticked: crew(row(-1, -1, 2, -1), row(0, 0, 1, 0)), done: row(0, 1, 3)}},
		{graph(64), crew(row(63, 9, 10, 2, 40, 0, 33, 32), alike(64, 1)), answer{
			ready:  slices.DeleteFunc(count(64), func(n int) bool { return slices.Contains(row(63, 9, 10, 2, 40, 0, 33, 32), n) }),
			filled: crew(row(63, 9, 10, 2, 40, 0, 33, 32), alike(64, 1)),
			ticked: crew(alike(8, -1), without(alike(64, 1), 0, 2, 9, 10, 32, 33, 40, 63)), done: row(0, 2, 9, 10, 32, 33, 40, 63)}},
	} {
		if got := byWords(x.d, x.c); got.e != x.want.e || !slices.Equal(got.ready, x.want.ready) || !equal(got.filled, x.want.filled) || !equal(got.ticked, x.want.ticked) || !slices.Equal(got.done, x.want.done) {
			t.Error("the test's own words", i, got)
		}
		hold(t, x.d, x.c, x.want)
		if t.Failed() {
			t.Fatal(i)
		}
	}
}

// count is the numbers from 0 up to one, that one left out.
func count(to int) []int {
	var l []int
	for n := range to {
		l = append(l, n)
	}
	return l
}

// without is a row in which nothing stands at some places.
func without(l []int, places ...int) []int {
	for _, i := range places {
		l[i] = 0
	}
	return l
}

// P11.1, P11.2: one node, of each number of cores, with 0, 1, MaxWork and other numbers left, on no core and on each.
func TestAlone(t *testing.T) {
	d := graph(1)
	for cores := 1; cores <= api.MaxCores; cores++ {
		idle := alike(cores, -1)
		hold(t, d, crew(idle, row(0)), answer{filled: crew(idle, row(0)), ticked: crew(idle, row(0))})
		for _, left := range row(1, 2, 7, api.MaxWork-1, api.MaxWork) {
			first := append(row(0), idle[1:]...)
			hold(t, d, crew(idle, row(left)), answer{ready: row(0), filled: crew(first, row(left)), ticked: crew(idle, row(left))})
			for core := range cores {
				on := slices.Clone(idle)
				on[core] = 0
				want := answer{filled: crew(on, row(left)), ticked: crew(on, row(left-1))}
				if left == 1 {
					want.ticked, want.done = crew(idle, row(0)), row(0)
				}
				hold(t, d, crew(on, row(left)), want)
				hold(t, d, crew(on, row(0)), answer{e: api.ErrCrewForm})
			}
			holdRun(t, d, row(left), cores, slices.Repeat(api.Trace{first}, left), api.OK)
			holdFollows(t, d, row(left), cores)
		}
	}
}

// P11.1 to P11.3: no node: crews of any number of cores, in which nothing is left; no rows.
func TestNothing(t *testing.T) {
	for cores := 1; cores <= api.MaxCores; cores++ {
		idle := alike(cores, -1)
		for _, none := range [][]int{nil, {}} {
			for _, d := range []api.Dag{{}, {Work: row(), Edges: []api.Edge{}}} {
				hold(t, d, crew(idle, none), answer{filled: crew(idle, nil), ticked: crew(idle, nil)})
				holdRun(t, d, none, cores, nil, api.OK)
			}
		}
	}
}

// P11.2, P11.3: a node is ready by the very tick in which the last of its Preds is done, and no sooner.
func TestLastPred(t *testing.T) {
	d := graph(5, 0, 2, 1, 2, 4, 2, 2, 3)
	c := crew(row(1, 4, 0), row(2, 1, 1, 1, 3))
	for i, want := range []answer{
		{filled: c, ticked: crew(row(-1, 4, 0), row(1, 0, 1, 1, 2)), done: row(1)},
		{filled: crew(row(-1, 4, 0), row(1, 0, 1, 1, 2)), ticked: crew(row(-1, 4, -1), row(0, 0, 1, 1, 1)), done: row(0)},
		{filled: crew(row(-1, 4, -1), row(0, 0, 1, 1, 1)), ticked: crew(row(-1, -1, -1), row(0, 0, 1, 1, 0)), done: row(4)},
		{ready: row(2), filled: crew(row(2, -1, -1), row(0, 0, 1, 1, 0)), ticked: crew(row(-1, -1, -1), row(0, 0, 1, 1, 0))},
	} {
		hold(t, d, c, want)
		if t.Failed() {
			t.Fatal(i)
		}
		c = want.ticked
	}
	holdRun(t, d, row(2, 1, 1, 1, 3), 3, api.Trace{{0, 1, 4}, {0, -1, 4}, {-1, -1, 4}, {2, -1, -1}, {3, -1, -1}}, api.OK)
}

// P11.1, P11.3: all nodes that there may be, alone and in a line, on each number of cores; and as many edges as there may be.
func TestMaxNodes(t *testing.T) {
	for cores := 1; cores <= api.MaxCores; cores++ {
		var wide, long api.Trace
		for n := range 64 {
			if n%cores == 0 {
				wide = append(wide, alike(cores, -1))
			}
			wide[n/cores][n%cores] = n
			long = append(long, append(row(n), alike(cores-1, -1)...))
		}
		holdRun(t, graph(64), alike(64, 1), cores, wide, api.OK)
		holdFollows(t, graph(64), alike(64, 1), cores)
		holdRun(t, line(64), alike(64, 1), cores, long, api.OK)
		holdFollows(t, line(64), alike(64, 1), cores)
		full := graph(64)
		for n := range 32 {
			for k := range 8 {
				full.Edges = append(full.Edges, api.Edge{From: 63 - n, To: (n + k) % 32})
			}
		}
		need := count(65)[1:]
		holdRun(t, full, need, cores, runByWords(full, need, cores), api.OK)
		holdFollows(t, full, need, cores)
		for _, wrong := range [][]int{alike(63, 1), alike(65, 1)} {
			holdRun(t, full, wrong, cores, nil, api.ErrSchedForm)
			hold(t, full, crew(alike(cores, -1), wrong), answer{e: api.ErrCrewForm})
		}
	}
}

// P11.1, P11.3: needs of MaxTicks all together, and of one less; of one more, and of far more, New has no error, and Run has.
func TestMaxTicks(t *testing.T) {
	for _, d := range []api.Dag{graph(5), line(5), graph(5, 3, 0, 1, 2)} {
		for cores := 1; cores <= api.MaxCores; cores++ {
			for _, last := range row(95, 96) {
				need := row(1000, 1000, 1000, 1000, last)
				holdRun(t, d, need, cores, runByWords(d, need, cores), api.OK)
				holdFollows(t, d, need, cores)
			}
			for _, last := range row(97, 98, 1000) {
				need := row(1000, last, 1000, 1000, 1000)
				if c, e := New(d, need, cores); !equal(c, crew(alike(cores, -1), need)) || e != api.OK {
					t.Error(cores, last, c, int(e))
				}
				if rows, e := Run(d, need, cores); len(rows) != 0 || e != api.ErrSchedForm {
					t.Error(cores, last, len(rows), int(e))
				}
			}
		}
	}
	if rows, e := Run(graph(64), alike(64, 64), 1); e != api.OK || len(rows) != api.MaxTicks {
		t.Error(len(rows), int(e))
	}
	if rows, e := Run(graph(64), append(alike(63, 64), 65), 8); e != api.ErrSchedForm || rows != nil {
		t.Error(len(rows), int(e))
	}
	if rows, e := Run(graph(64), alike(64, api.MaxWork), 8); e != api.ErrSchedForm || rows != nil {
		t.Error(len(rows), int(e))
	}
}

// P11.1, P11.3: needs and cores that may not be, each alone and both: chapter 10's error.
func TestWrongNeeds(t *testing.T) {
	d, need := diamond()
	var wrong [][]int
	for n := range need {
		for _, ticks := range append(far(), -1, 0, api.MaxWork+1) {
			l := slices.Clone(need)
			l[n] = ticks
			wrong = append(wrong, l)
		}
		wrong = append(wrong, need[:n])
	}
	wrong = append(wrong, append(slices.Clone(need), 1), append(slices.Clone(need), 0), alike(64, 1), alike(1000, 1))
	wrongCores := append(far(), -1, 0, 9, 10, 64)
	for _, l := range wrong {
		for cores := 1; cores <= api.MaxCores; cores++ {
			holdRun(t, d, l, cores, nil, api.ErrSchedForm)
		}
		for _, cores := range wrongCores {
			holdRun(t, d, l, cores, nil, api.ErrSchedForm)
		}
	}
	for _, cores := range wrongCores {
		holdRun(t, d, need, cores, nil, api.ErrSchedForm)
		holdRun(t, api.Dag{}, nil, cores, nil, api.ErrSchedForm)
		holdRun(t, d, row(1000, 1000, 1000, 1000, 1000), cores, nil, api.ErrSchedForm)
	}
	for cores := 1; cores <= api.MaxCores; cores++ {
		holdRun(t, d, need, cores, runByWords(d, need, cores), api.OK)
		holdRun(t, api.Dag{}, row(1), cores, nil, api.ErrSchedForm)
		c, e := New(d, row(1, 1000, 1, 1000, 1), cores)
		if !equal(c, crew(alike(cores, -1), row(1, 1000, 1, 1000, 1))) || e != api.OK {
			t.Error(cores, c, int(e))
		}
	}
}

// wrongCrews are crews of the diamond that may not be, each for one thing.
func wrongCrews() []api.Crew {
	_, need := diamond()
	begun := row(0, 1, 3, 2, 4)
	l := []api.Crew{
		// no cores, too many
		crew(nil, need), crew(row(), need), crew(alike(9, -1), need), crew(alike(100, -1), need),
		// too few numbers, too many
		crew(row(-1), nil), crew(row(-1), row()), crew(row(-1), need[:4]), crew(row(-1), row(2, 1, 3, 2, 4, 1)), crew(row(-1), row(2, 1, 3, 2, 4, 0)), crew(row(0, 4), need[:4]), crew(row(-1), alike(64, 0)), crew(row(-1), alike(65, 0)),
		// a node twice, on cores beside each other, and others
		crew(row(0, 0), need), crew(row(4, -1, 4), need), crew(row(1, 2, 1), begun), crew(row(-1, 4, 1, 2, -1, -1, -1, 4), begun),
		// one of which none is left
		crew(row(0), begun), crew(row(1, 0), begun), crew(row(4), alike(5, 0)), crew(row(1, 3), row(0, 1, 0, 0, 0)),
		// one on a core that waits: for one that hasn't begun, for one that runs, for one of two, for the other one
		crew(row(1), need), crew(row(0, 2), need), crew(row(2, 3), row(0, 0, 1, 2, 4)), crew(row(3), row(0, 1, 0, 2, 4)), crew(row(3), row(0, 0, 1, 2, 4)),
		// one that is done though it waits
		crew(row(-1), row(2, 0, 3, 2, 4)), crew(row(-1, 4), row(1, 1, 0, 2, 4)), crew(row(0), row(1, 1, 3, 0, 4)), crew(row(-1), row(0, 1, 0, 0, 4)), crew(row(-1), row(0, 0, 1, 0, 4)), crew(row(2), row(0, 0, 1, 0, 0)),
	}
	for n := range need {
		for _, left := range append(far(), -1, api.MaxWork+1) {
			wrong := slices.Clone(need)
			wrong[n] = left
			l = append(l, crew(row(-1), wrong))
			if n != 4 {
				l = append(l, crew(row(4), wrong))
			}
		}
	}
	for cores := 1; cores <= api.MaxCores; cores++ {
		for core := range cores {
			for _, n := range append(far(), -2, 5, 64) {
				wrong := alike(cores, -1)
				wrong[core] = n
				l = append(l, crew(wrong, need))
			}
		}
	}
	return l
}

// P11.1, P11.2: crews that may not be: ErrCrewForm, and nothing else.
func TestWrongCrews(t *testing.T) {
	d, _ := diamond()
	for i, c := range wrongCrews() {
		if mayBe(d, c) {
			t.Error("the test's own words", i, c)
		}
		hold(t, d, c, answer{e: api.ErrCrewForm})
		if t.Failed() {
			t.Fatal(i)
		}
	}
}

// spoilt is a way to make the diamond wrong, and its error.
type spoilt struct {
	e     api.Errno
	spoil func(d *api.Dag)
}

// wrongGraphs are ways to make the diamond wrong, of each of chapter 4's errors, by rising errors.
func wrongGraphs() []spoilt {
	return []spoilt{
		{api.ErrDagMany, func(d *api.Dag) { d.Work = append(d.Work, alike(60, 1)...) }},
		{api.ErrDagMany, func(d *api.Dag) { d.Edges = append(d.Edges, make([]api.Edge, 253)...) }},
		{api.ErrDagWork, func(d *api.Dag) { d.Work[4] = -1 }},
		{api.ErrDagWork, func(d *api.Dag) { d.Work[0] = api.MaxWork + 1 }},
		{api.ErrDagWork, func(d *api.Dag) { d.Work[1] = math.MinInt }},
		{api.ErrDagEdge, func(d *api.Dag) { d.Edges[3].To = len(d.Work) }},
		{api.ErrDagEdge, func(d *api.Dag) { d.Edges[0].From = -1 }},
		{api.ErrDagEdge, func(d *api.Dag) { d.Edges[1].To = math.MaxInt }},
		{api.ErrDagEdge, func(d *api.Dag) { d.Edges[1] = api.Edge{From: 2, To: 2} }},
		{api.ErrDagEdge, func(d *api.Dag) { d.Edges[2] = d.Edges[3] }},
		{api.ErrDagRound, func(d *api.Dag) { d.Edges = append(d.Edges, api.Edge{From: 3, To: 0}) }},
	}
}

// P11.1 to P11.3: each of chapter 4's errors, alone and with each later one, whatever crews, needs and cores there are: the graph's is told.
func TestWrongGraphs(t *testing.T) {
	_, need := diamond()
	crews := append(wrongCrews(), api.Crew{}, crew(row(-1), need), crew(row(0, 4), need), crew(row(-1, -1), alike(5, 0)), crew(row(-1), alike(65, 1)))
	ask := func(d api.Dag, e api.Errno) {
		t.Helper()
		for _, c := range crews {
			hold(t, d, c, answer{e: e})
		}
		for _, need := range [][]int{need, nil, row(1, 1, 1, 1, 0), alike(65, 1), alike(5, 1000)} {
			for _, cores := range append(far(), -1, 0, 1, 2, 8, 9) {
				holdRun(t, d, need, cores, nil, e)
			}
		}
	}
	for i, first := range wrongGraphs() {
		d, _ := diamond()
		first.spoil(&d)
		ask(d, first.e)
		for _, other := range wrongGraphs()[i+1:] {
			d, _ := diamond()
			first.spoil(&d)
			other.spoil(&d)
			ask(d, first.e)
		}
	}
	for _, n := range far() {
		d, _ := diamond()
		d.Work[2] = n
		ask(d, api.ErrDagWork)
		d, _ = diamond()
		d.Edges[2].From = n
		ask(d, api.ErrDagEdge)
	}
}

// eachRow hands out each row of so many numbers, from a least one up to a greatest one.
func eachRow(many, least, greatest int, give func(row []int)) {
	l := alike(many, least)
	for {
		give(slices.Clone(l))
		i := 0
		for i < many && l[i] == greatest {
			l[i] = least
			i++
		}
		if i == many {
			return
		}
		l[i]++
	}
}

// smallGraphs are all graphs of three nodes whose edges rise, by two other names for the nodes.
func smallGraphs() []api.Dag {
	var l []api.Dag
	rising := edges(0, 1, 0, 2, 1, 2)
	for i, name := range [][]int{{0, 1, 2}, {2, 0, 1}, {1, 2, 0}} {
		for bits := range 8 {
			d := graph(3)
			for j, e := range rising {
				if bits>>j&1 == 1 {
					d.Edges = append(d.Edges, api.Edge{From: name[e.From], To: name[e.To]})
				}
			}
			if i == 0 || bits != 0 {
				l = append(l, d)
			}
		}
	}
	return l
}

// P11.1, P11.2: all crews of small graphs, those that may not be among them, held against the chapter's words.
func TestSmallCrews(t *testing.T) {
	right, wrong, several := 0, 0, 0
	for _, d := range smallGraphs() {
		eachRow(3, -1, 2, func(left []int) {
			for cores := range 4 {
				eachRow(cores, -2, 3, func(on []int) {
					c := crew(on, left)
					want := byWords(d, c)
					hold(t, d, c, want)
					if t.Failed() {
						t.FailNow()
					}
					if want.e == api.OK {
						right++
					} else {
						wrong++
					}
					if len(want.done) > 1 {
						several++
					}
				})
			}
		})
	}
	if right < 1000 || wrong < 1000 || several < 100 {
		t.Error("too few of a kind", right, wrong, several)
	}
}

// P11.3, P11.4: all needs up to 3 of small graphs, on up to four cores: held against the chapter's words, and what follows.
func TestSmallRuns(t *testing.T) {
	for _, d := range smallGraphs() {
		eachRow(3, 0, 3, func(need []int) {
			for cores := range 5 {
				if cores == 0 || slices.Min(need) == 0 {
					holdRun(t, d, need, cores, nil, api.ErrSchedForm)
					continue
				}
				holdRun(t, d, need, cores, runByWords(d, need, cores), api.OK)
				holdFollows(t, d, need, cores)
			}
		})
	}
}

// P11.1 to P11.4: Run, of graphs by chance on up to eight cores, is what New, Fill and Tick come to one by one; each crew on the way may be; and so may the schedule, which is greedy, and ends by Bound, in which nothing is left.
func TestChance(t *testing.T) {
	by := chance(7)
	just, waited := 0, 0
	for range 1500 {
		many := 1 + by.next(14)
		d := by.graph(many, by.next(30))
		need, cores := by.needs(many, 1+by.next(9)), 1+by.next(8)
		var rows api.Trace
		c, e := New(d, need, cores)
		for e == api.OK && slices.Max(c.Left) > 0 {
			hold(t, d, c, byWords(d, c))
			filled, _ := Fill(d, c)
			hold(t, d, filled, byWords(d, filled))
			if slices.Contains(filled.On, -1) && len(Ready(d, filled)) > 0 {
				t.Error("idle needlessly", d.Edges, filled)
			}
			rows = append(rows, slices.Clone(filled.On))
			c, _, e = Tick(d, filled)
			if t.Failed() {
				t.FailNow()
			}
		}
		holdRun(t, d, need, cores, rows, api.OK)
		holdFollows(t, d, need, cores)
		if e != api.OK || !equal(c, crew(alike(cores, -1), alike(many, 0))) {
			t.Fatal(d.Edges, need, cores, c, int(e))
		}
		if len(rows) == sched.Bound(d, need, cores) {
			just++
		}
		if len(rows) > 0 && sched.Busy(rows) < cores*len(rows) {
			waited++
		}
	}
	if just < 100 || waited < 100 {
		t.Error("too few of a kind", just, waited)
	}
}

// P11.1, P11.2: crews by chance on the way through a graph, some numbers of which were changed, held against the chapter's words.
func TestSpoiltCrews(t *testing.T) {
	by := chance(13)
	right, wrong := 0, 0
	for range 6000 {
		many := 1 + by.next(10)
		d := by.graph(many, by.next(16))
		c := crew(alike(1+by.next(8), -1), by.needs(many, 3))
		for range by.next(10) {
			// Some that are ready are put on whatever cores have nothing.
			for _, n := range readyByWords(d, c) {
				if core := by.next(len(c.On)); c.On[core] == -1 && by.next(3) > 0 {
					c.On[core] = n
				}
			}
			hold(t, d, c, byWords(d, c))
			c, _ = tickByWords(c)
		}
		for range 1 + by.next(2) {
			switch core, n := by.next(len(c.On)), by.next(many); by.next(6) {
			case 0:
				c.On[core] = by.next(many+3) - 2
			case 1:
				c.On[core] = n
			case 2:
				c.Left[n] = 0
			case 3:
				c.Left[n] = 1
			case 4:
				c.Left[n] = by.next(1004) - 1
			case 5:
				c.Left[n], c.Left[0] = c.Left[0], c.Left[n]
			}
		}
		want := byWords(d, c)
		hold(t, d, c, want)
		if t.Failed() {
			t.FailNow()
		}
		if want.e == api.OK {
			right++
		} else {
			wrong++
		}
	}
	if right < 1000 || wrong < 1000 {
		t.Error("too few of a kind", right, wrong)
	}
}

// P11.1: Same: crews that are the same, nil and empty being one; and such that differ in one number, or in how many there are.
func TestSame(t *testing.T) {
	crews := []api.Crew{
		{}, crew(row(-1), nil), crew(nil, row(-1)), crew(row(-1), row(0)), crew(row(0), row(1)), crew(row(1), row(0)),
		crew(row(-1, -1), row(1)), crew(row(-1), row(-1, 1)), crew(row(-1), row(1, -1)), crew(row(0, 1), row(2, 3)), crew(row(1, 0), row(2, 3)), crew(row(0, 1), row(3, 2)),
		crew(row(0, 1, 2), row(3)), crew(row(0), row(1, 2, 3)), crew(row(0, 1, 2, 3), nil), crew(nil, row(0, 1, 2, 3)), crew(alike(8, -1), alike(64, 1000)), crew(alike(9, -1), alike(64, 1000)), crew(alike(8, -1), alike(65, 1000)), crew(far(), far()), crew(nil, append(far(), far()...)),
	}
	for i, a := range crews {
		for j, b := range crews {
			if is := Same(a, cloned(b)); is != (i == j) {
				t.Error(a, b, is)
			}
		}
	}
	if !Same(api.Crew{}, crew(row(), row())) || !Same(crew(row(), row(1)), crew(nil, row(1))) || !Same(crew(row(1), nil), crew(row(1), row())) {
		t.Error("nil and empty are one")
	}
	whole := crew(row(3, -1, 0, 1<<32, math.MinInt), row(0, 1000, 7, -1, math.MaxInt, 5))
	differs := func(change func(c *api.Crew)) {
		t.Helper()
		c := cloned(whole)
		change(&c)
		if Same(whole, c) || Same(c, whole) {
			t.Error(c)
		}
	}
	for _, by := range row(1, -1, 1<<32, math.MinInt) {
		for i := range whole.On {
			differs(func(c *api.Crew) { c.On[i] += by })
		}
		for i := range whole.Left {
			differs(func(c *api.Crew) { c.Left[i] += by })
		}
	}
	for i := range whole.On {
		differs(func(c *api.Crew) { c.On = slices.Delete(c.On, i, i+1) })
		differs(func(c *api.Crew) { c.On = c.On[:i] })
	}
	for i := range whole.Left {
		differs(func(c *api.Crew) { c.Left = slices.Delete(c.Left, i, i+1) })
		differs(func(c *api.Crew) { c.Left = c.Left[:i] })
	}
	differs(func(c *api.Crew) { c.On = append(c.On, 0) })
	differs(func(c *api.Crew) { c.Left = append(c.Left, 0) })
	if !Same(whole, cloned(whole)) {
		t.Error("the same")
	}
}

// P1, P11.1 to P11.3: at all arguments each call answers: far numbers everywhere, and lists of all lengths.
func TestAnswers(t *testing.T) {
	by := chance(17)
	number := func() int {
		if by.next(4) == 0 {
			return far()[by.next(len(far()))]
		}
		return by.next(12) - 3
	}
	numbers := func() []int {
		l := make([]int, by.next(5))
		for i := range l {
			l[i] = number()
		}
		return l
	}
	for range 20000 {
		d := api.Dag{Work: numbers()}
		for range by.next(4) {
			d.Edges = append(d.Edges, api.Edge{From: number(), To: number()})
		}
		if by.next(2) == 0 {
			d = graph(by.next(5))
		}
		c, need, cores := crew(numbers(), numbers()), numbers(), number()
		if by.next(2) == 0 {
			need = alike(len(d.Work), 1)
		}
		if e := Check(d, c); e != api.OK {
			hold(t, d, c, answer{e: e})
		} else {
			hold(t, d, c, byWords(d, c))
		}
		if _, e := New(d, need, cores); e != api.OK {
			holdRun(t, d, need, cores, nil, e)
		}
		Same(c, crew(numbers(), numbers()))
		if t.Failed() {
			t.FailNow()
		}
	}
}

// spare is a row with room behind it, all of the room the same number.
func spare(l []int) []int { return append(slices.Clone(l), alike(7, 77)...)[:len(l)] }

// isSpare is whether such a row, and the room behind it, is as it was.
func isSpare(l, was []int) bool {
	return len(l) == len(was) && slices.Equal(l[:len(was)+7], append(slices.Clone(was), alike(7, 77)...))
}

// P11.1 to P11.3: what is handed in stays as it was, the room behind it included.
func TestKept(t *testing.T) {
	d, need := diamond()
	for i, c := range append(wrongCrews(), crew(row(-1, -1, -1), need), crew(row(0, -1), row(1, 1, 3, 2, 1)), crew(row(4, 2, 1), row(0, 1, 1, 2, 1)), crew(row(-1), alike(5, 0))) {
		given := api.Dag{Work: spare(d.Work), Edges: append(slices.Clone(d.Edges), edges(7, 7, 7, 7)...)[:4]}
		l, x := spare(need), crew(spare(c.On), spare(c.Left))
		Check(given, x)
		Ready(given, x)
		Fill(given, x)
		Tick(given, x)
		Same(x, x)
		New(given, l, 2)
		Run(given, l, 2)
		New(given, x.Left, len(x.On))
		Run(given, x.Left, len(x.On))
		if !isSpare(given.Work, d.Work) || !isSpare(l, need) || !isSpare(x.On, c.On) || !isSpare(x.Left, c.Left) {
			t.Error(i, given, l, x)
		}
		if !slices.Equal(given.Edges[:6], append(slices.Clone(d.Edges), edges(7, 7, 7, 7)...)) {
			t.Error(i, given.Edges[:6])
		}
	}
}

// overwrite writes into all of a list, the room behind it included.
func overwrite(l []int) {
	l = l[:cap(l)]
	for i := range l {
		l[i] = 99
	}
}

// overwriteCrew writes into all of a crew.
func overwriteCrew(c api.Crew) {
	overwrite(c.On)
	overwrite(c.Left)
}

// P11.1 to P11.3: what is handed out is new memory: whoever writes into it changes neither what was handed in, nor what is handed out beside it or next.
func TestNewMemory(t *testing.T) {
	d, need := diamond()
	c := crew(row(-1, 4, 0), row(1, 1, 3, 2, 1))
	idle := crew(row(4, 0, -1), row(1, 1, 3, 2, 1))
	for range 3 {
		first, _ := New(d, need, 3)
		ready := Ready(d, crew(row(-1), need))
		filled, _ := Fill(d, idle)
		ticked, done, _ := Tick(d, c)
		if !equal(first, crew(row(-1, -1, -1), need)) || !slices.Equal(ready, row(0, 4)) || !equal(filled, idle) || !equal(ticked, crew(row(-1, -1, -1), row(0, 1, 3, 2, 0))) || !slices.Equal(done, row(0, 4)) {
			t.Error(first, ready, filled, ticked, done)
		}
		overwrite(done)
		if !equal(ticked, crew(row(-1, -1, -1), row(0, 1, 3, 2, 0))) {
			t.Error("done and the crew share", ticked)
		}
		overwrite(ticked.On)
		if !slices.Equal(ticked.Left, row(0, 1, 3, 2, 0)) {
			t.Error("on and left share", ticked)
		}
		overwrite(ready)
		overwriteCrew(first)
		overwriteCrew(filled)
		overwriteCrew(ticked)
	}
	if !slices.Equal(need, row(2, 1, 3, 2, 4)) || !equal(c, crew(row(-1, 4, 0), row(1, 1, 3, 2, 1))) || !equal(idle, crew(row(4, 0, -1), row(1, 1, 3, 2, 1))) {
		t.Error(need, c, idle)
	}
}

// P11.3: no two rows of a schedule share anything, nor what New hands out.
func TestRowsAlone(t *testing.T) {
	d, need := diamond()
	want := runByWords(d, need, 3)
	rows, _ := Run(d, need, 3)
	for tick := range rows {
		if !slices.EqualFunc(rows[tick:], want[tick:], slices.Equal) {
			t.Fatal(tick, rows)
		}
		overwrite(rows[tick])
	}
	rows, _ = Run(d, need, 3)
	for tick := len(rows) - 1; tick >= 0; tick-- {
		if !slices.EqualFunc(rows[:tick+1], want[:tick+1], slices.Equal) {
			t.Fatal(tick, rows)
		}
		overwrite(rows[tick])
	}
	c, _ := New(d, need, 3)
	overwrite(c.On)
	if !slices.Equal(c.Left, need) {
		t.Error("on and left share", c)
	}
	if !slices.Equal(need, row(2, 1, 3, 2, 4)) {
		t.Error(need)
	}
}

// P11.1 to P11.3: nobody writes later into what is handed back: neither the same calls, asked again of it and of others, nor the calls of what comes of it.
func TestWrittenByNobody(t *testing.T) {
	d, need := diamond()
	first, _ := New(d, need, 2)
	ready := Ready(d, first)
	filled, _ := Fill(d, first)
	ticked, done, _ := Tick(d, filled)
	last, ends, _ := Tick(d, crew(row(4, 2, 1), row(0, 1, 1, 2, 1)))
	rows, _ := Run(d, need, 2)
	for c := filled; slices.Max(c.Left) > 0; c, _, _ = Tick(d, c) {
		c, _ = Fill(d, c)
		Ready(d, c)
		Fill(d, ticked)
		Tick(d, ticked)
		Run(d, need, 2)
	}
	if !equal(first, crew(row(-1, -1), need)) || !slices.Equal(ready, row(0, 4)) || !equal(filled, crew(row(0, 4), need)) || !equal(ticked, crew(row(0, 4), row(1, 1, 3, 2, 3))) || len(done) != 0 {
		t.Error(first, ready, filled, ticked, done)
	}
	if !equal(last, crew(row(-1, -1, -1), row(0, 0, 0, 2, 0))) || !slices.Equal(ends, row(1, 2, 4)) || !slices.EqualFunc(rows, runByWords(d, need, 2), slices.Equal) {
		t.Error(last, ends, rows)
	}
}
