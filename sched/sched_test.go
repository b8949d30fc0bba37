package sched

import (
	"math"
	"slices"
	"testing"

	"trefoil/api"
)

// edges is an edge from the first to the second number, from the third to the fourth, and so on.
func edges(ends ...int) []api.Edge {
	var l []api.Edge
	for i := 0; i+1 < len(ends); i += 2 {
		l = append(l, api.Edge{From: ends[i], To: ends[i+1]})
	}
	return l
}

// row is its numbers.
func row(n ...int) []int { return n }

// alike is so many numbers of one worth.
func alike(count, n int) []int { return slices.Repeat([]int{n}, count) }

// graph is so many nodes, of works that are no needs, and edges.
func graph(count int, ends ...int) api.Dag {
	d := api.Dag{Edges: edges(ends...)}
	for n := range count {
		d.Work = append(d.Work, n*37%(api.MaxWork+1))
	}
	return d
}

// line is so many nodes, each behind the one ahead of it.
func line(count int) api.Dag {
	d := graph(count)
	for n := 1; n < count; n++ {
		d.Edges = append(d.Edges, api.Edge{From: n - 1, To: n})
	}
	return d
}

// columns is a schedule on as many cores as there are rows of numbers: what runs on each of them, tick by tick.
func columns(cores ...[]int) api.Trace {
	var t api.Trace
	for tick := range cores[0] {
		var row []int
		for _, core := range cores {
			row = append(row, core[tick])
		}
		t = append(t, row)
	}
	return t
}

// copied is a schedule that shares nothing with another one.
func copied(t api.Trace) api.Trace {
	t = slices.Clone(t)
	for i, row := range t {
		t[i] = slices.Clone(row)
	}
	return t
}

// far are numbers far from all that may be, and such as look small when they are cut to 32 bits.
var far = []int{math.MinInt, -1 << 32, 1 << 32, 1<<32 + 1, math.MaxInt}

// chance hands out numbers below a bound, always the same ones.
type chance uint64

func (c *chance) next(below int) int {
	*c = *c*6364136223846793005 + 1442695040888963407
	return int(uint64(*c)>>33) % below
}

// graph is so many nodes, and up to so many edges between them that lead no way round: all lead rightwards in a row of the nodes by chance.
func (c *chance) graph(count, most int) api.Dag {
	names := make([]int, count)
	for i := range names {
		j := c.next(i + 1)
		names[i], names[j] = names[j], i
	}
	d := graph(count)
	for range c.next(most + 1) {
		a, b := c.next(count), c.next(count)
		e := api.Edge{From: names[min(a, b)], To: names[max(a, b)]}
		if a != b && !slices.Contains(d.Edges, e) {
			d.Edges = append(d.Edges, e)
		}
	}
	return d
}

// needs is so many needs, each from 1 on.
func (c *chance) needs(count, most int) []int {
	l := make([]int, count)
	for n := range l {
		l[n] = 1 + c.next(most)
	}
	return l
}

// work is a schedule of up to so many rows, and by when each node is done in it: a core that has nothing takes one of those nodes that may begin, by chance, but leaves it, so many times of a hundred, although there is one.
func (c *chance) work(d api.Dag, need []int, cores, most, lazy int) (t api.Trace, ends []int) {
	left, begun, on := slices.Clone(need), make([]bool, len(need)), alike(cores, -1)
	ends = alike(len(need), -1)
	for len(t) < most && slices.Max(left) > 0 {
		var may []int
		for n := range need {
			if !begun[n] && !slices.ContainsFunc(waitsFor(d, n), func(p int) bool { return left[p] > 0 }) {
				may = append(may, n)
			}
		}
		for core, n := range on {
			if n < 0 && len(may) > 0 && c.next(100) >= lazy {
				i := c.next(len(may))
				on[core], begun[may[i]] = may[i], true
				may = slices.Delete(may, i, i+1)
			}
		}
		t = append(t, slices.Clone(on))
		for core, n := range on {
			if n < 0 {
				continue
			}
			if left[n]--; left[n] == 0 {
				on[core], ends[n] = -1, len(t)
			}
		}
	}
	return t, ends
}

// waitsFor is the nodes From which an edge leads to one.
func waitsFor(d api.Dag, n int) []int {
	var l []int
	for _, e := range d.Edges {
		if e.To == n {
			l = append(l, e.From)
		}
	}
	return l
}

// ranBy is in how many ticks ahead of one a node runs.
func ranBy(t api.Trace, n, tick int) int {
	many := 0
	for _, row := range t[:tick] {
		if slices.Contains(row, n) {
			many++
		}
	}
	return many
}

// doneBy is whether a node is done by a tick, and allDoneBy whether all of them are, by the chapter's words.
func doneBy(need []int, t api.Trace, n, tick int) bool { return ranBy(t, n, tick) >= need[n] }

func allDoneBy(need []int, t api.Trace, nodes []int, tick int) bool {
	return !slices.ContainsFunc(nodes, func(n int) bool { return !doneBy(need, t, n, tick) })
}

// wrongBy is what is wrong with a number, nothing being wrong with those ahead of it, by the chapter's words.
func wrongBy(d api.Dag, need []int, t api.Trace, tick, core int) api.Errno {
	n := t[tick][core]
	if n == -1 {
		return api.OK
	}
	if n < 0 || n >= len(d.Work) {
		return api.ErrSchedNode
	}
	for ahead := range core {
		if t[tick][ahead] == n {
			return api.ErrSchedTwice
		}
	}
	if doneBy(need, t, n, tick) {
		return api.ErrSchedOver
	}
	if ranBy(t, n, tick) > 0 {
		if t[tick-1][core] == n {
			return api.OK
		}
		return api.ErrSchedSplit
	}
	if !allDoneBy(need, t, waitsFor(d, n), tick) {
		return api.ErrSchedWait
	}
	return api.OK
}

// checkByWords is what Check has to tell of a graph that may be, by the chapter's words.
func checkByWords(d api.Dag, need []int, cores int, t api.Trace) api.Errno {
	if len(need) != len(d.Work) || cores < 1 || cores > 8 || len(t) > 4096 {
		return api.ErrSchedForm
	}
	for _, ticks := range need {
		if ticks < 1 || ticks > 1000 {
			return api.ErrSchedForm
		}
	}
	for _, row := range t {
		if len(row) != cores {
			return api.ErrSchedForm
		}
	}
	for tick := range t {
		for core := range cores {
			if e := wrongBy(d, need, t, tick, core); e != api.OK {
				return e
			}
		}
	}
	return api.OK
}

// endsByWords is by when each node is done, the least tick of all up to the number of rows; -1: by none.
func endsByWords(need []int, t api.Trace) []int {
	ends := alike(len(need), -1)
	for n := range need {
		for tick := len(t); tick >= 0; tick-- {
			if doneBy(need, t, n, tick) {
				ends[n] = tick
			}
		}
	}
	return ends
}

// greedyByWords is whether no core has nothing in a tick in which one more node might run.
func greedyByWords(d api.Dag, need []int, t api.Trace) bool {
	for tick, row := range t {
		for _, on := range row {
			for n := range need {
				if on == -1 && ranBy(t, n, tick+1) == 0 && allDoneBy(need, t, waitsFor(d, n), tick) {
					return false
				}
			}
		}
	}
	return true
}

// longFrom is the greatest sum of needs of the ways that begin with a node.
func longFrom(d api.Dag, need []int, n int) int {
	most := 0
	for _, e := range d.Edges {
		if e.From == n {
			most = max(most, longFrom(d, need, e.To))
		}
	}
	return need[n] + most
}

// boundByWords is Graham's bound, step by step: the greatest number that, as often as there are cores, isn't above C and (cores - 1) times L.
func boundByWords(d api.Dag, need []int, cores int) int {
	all, long := 0, 0
	for n, ticks := range need {
		all += ticks
		long = max(long, longFrom(d, need, n))
	}
	bound := 0
	for cores*(bound+1) <= all+(cores-1)*long {
		bound++
	}
	return bound
}

// answer is what the calls tell of a schedule.
type answer struct {
	e      api.Errno
	ends   []int
	greedy bool
	busy   int
	bound  int
}

// hold holds what all calls tell of a schedule against what they have to.
func hold(t *testing.T, d api.Dag, need []int, cores int, tr api.Trace, want answer) {
	t.Helper()
	if e := Check(d, need, cores, tr); e != want.e {
		t.Error("Check", d.Edges, need, cores, tr, int(e), int(want.e))
	}
	if l := Ends(d, need, cores, tr); !slices.Equal(l, want.ends) {
		t.Error("Ends", d.Edges, need, cores, tr, l, want.ends)
	}
	if is := Greedy(d, need, cores, tr); is != want.greedy {
		t.Error("Greedy", d.Edges, need, cores, tr, is)
	}
	if many := Busy(tr); many != want.busy {
		t.Error("Busy", tr, many, want.busy)
	}
	if bound := Bound(d, need, cores); bound != want.bound {
		t.Error("Bound", d.Edges, need, cores, bound, want.bound)
	}
}

// byWords is what the calls have to tell of a schedule, of a graph, needs and cores that may be.
func byWords(d api.Dag, need []int, cores int, t api.Trace) answer {
	want := answer{e: checkByWords(d, need, cores, t), bound: boundByWords(d, need, cores)}
	for _, row := range t {
		for _, n := range row {
			if n != -1 {
				want.busy++
			}
		}
	}
	if want.e == api.OK {
		want.ends, want.greedy = endsByWords(need, t), greedyByWords(d, need, t)
	}
	return want
}

// holdGraham holds a schedule that may be, is greedy, and in which all is done, against what follows: all is done by Bound; and while a node waits, all cores run others, or one runs that it waits for, on whatever way.
func holdGraham(t *testing.T, d api.Dag, need []int, cores int, tr api.Trace) {
	t.Helper()
	ends := Ends(d, need, cores, tr)
	if len(ends) > 0 && slices.Max(ends) > Bound(d, need, cores) {
		t.Error("later than by Bound", d.Edges, need, cores, tr)
	}
	for n := range need {
		for tick := 0; !slices.Contains(tr[tick], n); tick++ {
			if slices.Contains(tr[tick], -1) && !isKeptBy(d, tr[tick], n) {
				t.Error(n, "waits for none that runs in", tick, d.Edges, need, cores, tr)
			}
		}
	}
}

// isKeptBy is whether one of those runs in a row from which a way leads to a node.
func isKeptBy(d api.Dag, row []int, n int) bool {
	return slices.ContainsFunc(waitsFor(d, n), func(p int) bool { return slices.Contains(row, p) || isKeptBy(d, row, p) })
}

// P10.1, P10.2, P10.3: the chapter's example.
func TestExample(t *testing.T) {
	hold(t, graph(2, 0, 1), row(2, 1), 1, api.Trace{{0}, {0}, {1}}, answer{ends: row(2, 3), greedy: true, busy: 3, bound: 3})
}

// diamond is 0 ahead of 1 and 2, both of them ahead of 3, and 4 alone.
func diamond() (api.Dag, []int) { return graph(5, 0, 1, 0, 2, 1, 3, 2, 3), row(2, 1, 3, 2, 4) }

// P10.1, P10.2, P10.3: schedules by name, of a graph of several edges, on one core and on several.
func TestSchedules(t *testing.T) {
	d, need := diamond()
	for i, x := range []struct {
		t      api.Trace
		ends   []int
		greedy bool
		busy   int
	}{
		// on one core: in two orders
		{columns(row(0, 0, 1, 2, 2, 2, 3, 3, 4, 4, 4, 4)), row(2, 3, 6, 8, 12), true, 12},
		{columns(row(4, 4, 4, 4, 0, 0, 2, 2, 2, 1, 3, 3)), row(6, 10, 9, 12, 4), true, 12},
		// it has nothing ahead of all, in between, behind all
		{columns(row(-1, 0, 0, 1, 2, 2, 2, 3, 3, 4, 4, 4, 4)), row(3, 4, 7, 9, 13), false, 12},
		{columns(row(0, 0, 1, 2, 2, 2, 3, 3, -1, 4, 4, 4, 4)), row(2, 3, 6, 8, 13), false, 12},
		{columns(row(0, 0, 1, 2, 2, 2, 3, 3, 4, 4, 4, 4, -1)), row(2, 3, 6, 8, 12), true, 12},
		// not all is done: some began, and some not
		{columns(row(0, 0, 1, 2, 2)), row(2, 3, -1, -1, -1), true, 5},
		{columns(row(4, 4, 4, 0, -1)), row(-1, -1, -1, -1, -1), true, 4},
		// 4 stopped: it may not go on, and so nobody is idle for its sake
		{columns(row(4, 4, 4, 0, 0, 1, 2, 2, 2, 3, 3, -1)), row(5, 6, 9, 11, -1), true, 11},
		// on two cores, from tick 5 on the second one has nothing that may run
		{columns(row(0, 0, 2, 2, 2, 3, 3), row(4, 4, 4, 4, 1, -1, -1)), row(2, 5, 5, 7, 4), true, 12},
		{columns(row(4, 4, 4, 4, 1, 3, 3), row(0, 0, 2, 2, 2, -1, -1)), row(2, 5, 5, 7, 4), true, 12},
		// though something may run: 1 in tick 4, 3 in tick 5
		{columns(row(0, 0, 2, 2, 2, -1, 3, 3), row(4, 4, 4, 4, -1, 1, -1, -1)), row(2, 6, 5, 8, 4), false, 12},
		{columns(row(0, 0, 2, 2, 2, -1, 3, 3), row(4, 4, 4, 4, 1, -1, -1, -1)), row(2, 5, 5, 8, 4), false, 12},
		// 3 could begin beside others; in the tick in which they end it can't
		{columns(row(0, 0, 2, 2, 2, 3, 3, -1), row(-1, -1, 1, 4, 4, 4, 4, -1)), row(2, 3, 5, 7, 7), false, 12},
		// on three: two have nothing, in ticks 5 and 6, one in ticks 3 and 4
		{columns(row(0, 0, 1, -1, -1, -1, -1), row(4, 4, 4, 4, -1, 3, 3), row(-1, -1, 2, 2, 2, -1, -1)), row(2, 3, 5, 7, 4), true, 12},
		{columns(row(0, 0, 1, -1, -1), row(-1, 4, 4, 4, 4), row(-1, -1, 2, 2, 2)), row(2, 3, 5, -1, 5), false, 10},
		{columns(row(0, 0, -1), row(4, 4, 4), row(-1, -1, 2)), row(2, -1, -1, -1, -1), false, 6},
	} {
		bound := []int{0, 12, 9, 8}[len(x.t[0])]
		hold(t, d, need, len(x.t[0]), x.t, answer{api.OK, x.ends, x.greedy, x.busy, bound})
		if t.Failed() {
			t.Fatal(i)
		}
	}
}

// P10.1, P10.2: no ticks at all; no nodes at all; ticks without anything.
func TestNothing(t *testing.T) {
	d, need := diamond()
	for cores := 1; cores <= api.MaxCores; cores++ {
		bound := boundByWords(d, need, cores)
		for _, none := range []api.Trace{nil, {}} {
			hold(t, d, need, cores, none, answer{ends: alike(5, -1), greedy: true, bound: bound})
			hold(t, api.Dag{}, nil, cores, none, answer{greedy: true})
			hold(t, api.Dag{Work: []int{}, Edges: []api.Edge{}}, []int{}, cores, none, answer{greedy: true})
		}
		for _, ticks := range []int{1, 2, api.MaxTicks} {
			idle := api.Trace(slices.Repeat([][]int{alike(cores, -1)}, ticks))
			hold(t, d, need, cores, idle, answer{ends: alike(5, -1), bound: bound})
			hold(t, api.Dag{}, nil, cores, idle, answer{greedy: true})
		}
	}
}

// P10.1, P10.2, P10.3: one node, of needs of 1, of MaxWork and between, on each core of as many as there may be: up to each tick but the last it isn't done, and from then on it is.
func TestAlone(t *testing.T) {
	d := graph(1)
	for _, need := range []int{1, 2, 7, api.MaxWork - 1, api.MaxWork} {
		for cores := 1; cores <= api.MaxCores; cores++ {
			on := alike(cores, -1)
			on[need%cores] = 0
			for _, late := range []int{0, 1, 3} {
				var tr api.Trace
				want := answer{ends: row(-1), greedy: true, bound: need}
				for range late {
					tr, want.greedy = append(tr, alike(cores, -1)), false
				}
				for tick := range need {
					if tick == 0 || tick >= need-2 {
						hold(t, d, row(need), cores, tr, want)
					}
					tr = append(tr, on)
					want.greedy, want.busy = late == 0, tick+1
				}
				want.ends = row(late + need)
				hold(t, d, row(need), cores, tr, want)
				hold(t, d, row(need), cores, append(tr[:len(tr):len(tr)], alike(cores, -1)), want)
				hold(t, d, row(need), cores, append(tr[:len(tr):len(tr)], on), answer{e: api.ErrSchedOver, busy: need + 1, bound: need})
			}
		}
	}
}

// P10.1, P10.2: as many rows as there may be: a node is done with the last of them, or isn't by it; and one row more.
func TestMaxTicks(t *testing.T) {
	d, need := line(6), row(1000, 1000, 1000, 1000, 96, 2)
	var long []int
	for n, ticks := range need {
		long = append(long, alike(ticks, n)...)
	}
	tr := columns(long[:api.MaxTicks])
	hold(t, d, need, 1, tr, answer{ends: row(1000, 2000, 3000, 4000, 4096, -1), greedy: true, busy: 4096, bound: 4098})
	hold(t, d, need, 1, tr[:4095], answer{ends: row(1000, 2000, 3000, 4000, -1, -1), greedy: true, busy: 4095, bound: 4098})
	for _, more := range []int{-1, 0, 4, 5, 6} {
		hold(t, d, need, 1, append(tr[:4096:4096], row(more)), answer{e: api.ErrSchedForm, busy: Busy(tr) + Busy(api.Trace{{more}}), bound: 4098})
	}
	need[4] = 97
	hold(t, d, need, 1, tr, answer{ends: row(1000, 2000, 3000, 4000, -1, -1), greedy: true, busy: 4096, bound: 4099})
	need[4] = 95
	hold(t, d, need, 1, tr, answer{e: api.ErrSchedOver, busy: 4096, bound: 4097})
	need[4], tr[4095][0] = 95, 5
	hold(t, d, need, 1, tr, answer{ends: row(1000, 2000, 3000, 4000, 4095, -1), greedy: true, busy: 4096, bound: 4097})
	tr[4095][0] = -1
	hold(t, d, need, 1, tr, answer{ends: row(1000, 2000, 3000, 4000, 4095, -1), busy: 4095, bound: 4097})
	for _, many := range []int{4097, 5000, 100000} {
		hold(t, d, need, 1, slices.Repeat(api.Trace{{-1}}, many), answer{e: api.ErrSchedForm, bound: 4097})
		hold(t, d, need, 1, make(api.Trace, many), answer{e: api.ErrSchedForm, bound: 4097})
	}
}

// P10.1, P10.2, P10.3: as many nodes, edges and cores as there may be, and the greatest needs of all.
func TestGreatest(t *testing.T) {
	d := graph(api.MaxNodes)
	for a := 0; len(d.Edges) < api.MaxEdges; a++ {
		for b := api.MaxNodes - 1; b > a && len(d.Edges) < api.MaxEdges; b-- {
			d.Edges = append(d.Edges, api.Edge{From: a, To: b})
		}
	}
	for _, x := range []struct{ most, cores int }{{100, 2}, {500, 8}, {api.MaxWork, 8}} {
		for i := range 6 {
			c := chance(i)
			need := c.needs(api.MaxNodes, x.most)
			if i == 0 {
				need = alike(api.MaxNodes, min(x.most, 500))
			}
			lazy := i % 2 * 30
			tr, ends := c.work(d, need, x.cores, api.MaxTicks, lazy)
			busy := 0
			for n, ticks := range need {
				busy += min(ticks, ranBy(tr, n, len(tr)))
			}
			want := answer{ends: ends, greedy: lazy == 0, busy: busy, bound: Bound(d, need, x.cores)}
			hold(t, d, need, x.cores, tr, want)
			if lazy == 0 && slices.Min(ends) > 0 {
				holdGraham(t, d, need, x.cores, tr)
			}
		}
	}
	if n := Bound(d, alike(api.MaxNodes, api.MaxWork), 8); n != (64000+7*6000)/8 {
		t.Error(n)
	}
	if n := Bound(line(api.MaxNodes), alike(api.MaxNodes, api.MaxWork), 8); n != 64000 {
		t.Error(n)
	}
}

// P10.1, P10.2: a node begins in the very tick by which the last of its Preds is done, on the same core and on others; a tick ahead it waits.
func TestVeryTick(t *testing.T) {
	d, need := graph(4, 0, 3, 1, 3, 2, 3), row(1, 3, 2, 1)
	for core := range 3 {
		tr := columns(row(0, -1, -1, -1), row(1, 1, 1, -1), row(2, 2, -1, -1))
		tr[3][core] = 3
		hold(t, d, need, 3, tr, answer{ends: row(1, 3, 2, 4), greedy: true, busy: 7, bound: 5})
		tr[3][core] = -1
		hold(t, d, need, 3, tr, answer{ends: row(1, 3, 2, -1), busy: 6, bound: 5})
	}
	// in the tick in which 1 ends, ahead of 1 in the row and behind it
	for _, core := range []int{0, 2} {
		tr := columns(row(0, -1, -1), row(1, 1, 1), row(2, 2, -1))
		hold(t, d, need, 3, tr, answer{ends: row(1, 3, 2, -1), greedy: true, busy: 6, bound: 5})
		tr[2][core] = 3
		hold(t, d, need, 3, tr, answer{e: api.ErrSchedWait, busy: 7, bound: 5})
	}
	// each of the Preds alone keeps it
	for n := range 3 {
		tr := api.Trace{{0, 1, 2}, {-1, 1, 2}, {-1, 1, -1}, {3, -1, -1}}
		tr[need[n]-1][n] = -1
		hold(t, d, need, 3, tr, answer{e: api.ErrSchedWait, busy: 6, bound: 5})
	}
}

// wrongs is a schedule's beginning, on eight cores, and numbers that may not follow it: 0 is done, 1 has stopped, 2 waits for 3, 4 is just about to begin on the first core, and 5 goes on upon the second.
func wrongs() (d api.Dag, need []int, begin api.Trace, next [2][]int) {
	d, need = graph(8, 3, 2, 0, 4), row(1, 3, 1, 1, 4, 5, 1, 1)
	idle := alike(5, -1)
	begin = api.Trace{append(row(0, 5, 1), idle...), append(row(-1, 5, -1), idle...)}
	next = [2][]int{append(row(4, 5, -1), idle...), append(row(4, 5, -1), idle...)}
	return d, need, begin, next
}

// faults are the numbers that may not follow, and their errors.
func faults() map[int]api.Errno {
	return map[int]api.Errno{
		-2: api.ErrSchedNode, 8: api.ErrSchedNode,
		4: api.ErrSchedTwice, 5: api.ErrSchedTwice,
		0: api.ErrSchedOver, 1: api.ErrSchedSplit, 2: api.ErrSchedWait,
	}
}

// P10.1, P10.2: each error, of a number on each core, in two rows; and of two numbers, in one row and in two, the first one's.
func TestFirst(t *testing.T) {
	d, need, begin, next := wrongs()
	bound := boundByWords(d, need, 8)
	tr := append(begin, next[0], next[1])
	hold(t, d, need, 8, tr, answer{ends: row(1, -1, -1, -1, -1, -1, -1, -1), busy: 8, bound: bound})
	ask := func(put func(tr api.Trace), want api.Errno) {
		t.Helper()
		tr := copied(tr)
		put(tr)
		hold(t, d, need, 8, tr, answer{e: want, busy: Busy(tr), bound: bound})
	}
	for n, e := range faults() {
		for core := 2; core < 8; core++ {
			ask(func(tr api.Trace) { tr[2][core] = n }, e)
			ask(func(tr api.Trace) { tr[3][core] = n }, e)
			for other := range faults() {
				ask(func(tr api.Trace) { tr[3][core], tr[2][10-core-1] = other, n }, e)
				for behind := core + 1; behind < 8; behind++ {
					ask(func(tr api.Trace) { tr[2][core], tr[2][behind] = n, other }, e)
					ask(func(tr api.Trace) { tr[3][core], tr[3][behind] = n, other }, e)
				}
			}
		}
	}
}

// P10.1: a number that is wrong in two ways: the one named first is told.
func TestOneNumber(t *testing.T) {
	d, need := graph(3, 0, 1), row(2, 2, 1)
	for i, x := range []struct {
		t api.Trace
		e api.Errno
	}{
		// twice in the row, and on another core than in the tick ahead
		{api.Trace{{0, -1}, {0, 0}}, api.ErrSchedTwice},
		{api.Trace{{-1, 0}, {0, 0}}, api.ErrSchedSplit},
		// it has run for as long as it needs, and not in the tick ahead; on another core
		{api.Trace{{0, -1}, {0, -1}, {2, -1}, {0, -1}}, api.ErrSchedOver},
		{api.Trace{{0, -1}, {0, -1}, {-1, 0}}, api.ErrSchedOver},
		// ... and twice: the first of the two is told
		{api.Trace{{0, -1}, {0, -1}, {0, 0}}, api.ErrSchedOver},
		// it waits, and is there twice: the first of the two is told
		{api.Trace{{1, 1}}, api.ErrSchedWait},
		{api.Trace{{2, 2}}, api.ErrSchedTwice},
		// no node, twice
		{api.Trace{{3, 3}}, api.ErrSchedNode},
		{api.Trace{{-2, -2}}, api.ErrSchedNode},
		// -1, as often as may be
		{api.Trace{{-1, -1}, {-1, -1}}, api.OK},
	} {
		if e := Check(d, need, 2, x.t); e != x.e {
			t.Error(i, x.t, e, x.e)
		}
	}
}

// P10.1: a node that goes on after one tick and after many without it, upon another core, upon another one and back, having changed places with another node; and that goes on as it may.
func TestSplit(t *testing.T) {
	d, need := graph(2), row(4, 3)
	for i, x := range []struct {
		t api.Trace
		e api.Errno
	}{
		{columns(row(0, -1, 0)), api.ErrSchedSplit},
		{columns(row(0, 0, 0, -1, -1, -1, -1, 0)), api.ErrSchedSplit},
		{columns(row(0, 1, 0)), api.ErrSchedSplit},
		{columns(row(0, -1), row(-1, 0)), api.ErrSchedSplit},
		{columns(row(-1, 0), row(0, -1)), api.ErrSchedSplit},
		{columns(row(0, -1, 0), row(-1, 0, -1)), api.ErrSchedSplit},
		{columns(row(0, 1), row(1, 0)), api.ErrSchedSplit},
		{columns(row(0, 0, -1, -1), row(-1, 1, 1, 0)), api.ErrSchedSplit},
		{columns(row(0, 0, 0, 0), row(-1, 1, 1, 1)), api.OK},
		{columns(row(0, 0, 1, 1)), api.OK},
		{columns(row(-1, -1, 0, 0)), api.OK},
		{columns(row(0, 0, 0, 0, 1, 1, 1)), api.OK},
	} {
		if e := Check(d, need, len(x.t[0]), x.t); e != x.e {
			t.Error(i, x.t, e, x.e)
		}
	}
}

// P10.1, P10.2: numbers that are no nodes, close to those that are and far off, in each place.
func TestNode(t *testing.T) {
	d, need := diamond()
	good := columns(row(0, 0, 2, 2, 2, 3, 3), row(4, 4, 4, 4, 1, -1, -1))
	for _, n := range append(far, -2, -3, -64, 5, 6, 63, 64, 65, 255, 256, api.MaxInt-1) {
		for tick := range good {
			for core := range 2 {
				tr := copied(good)
				tr[tick][core] = n
				busy := 12
				if good[tick][core] == -1 {
					busy++
				}
				hold(t, d, need, 2, tr, answer{e: api.ErrSchedNode, busy: busy, bound: 9})
			}
		}
		hold(t, api.Dag{}, nil, 1, api.Trace{{n}}, answer{e: api.ErrSchedNode, busy: 1})
	}
	hold(t, api.Dag{}, nil, 1, api.Trace{{0}}, answer{e: api.ErrSchedNode, busy: 1})
	hold(t, graph(api.MaxNodes), alike(api.MaxNodes, 1), 1, api.Trace{{63}}, answer{ends: append(alike(63, -1), 1), greedy: true, busy: 1, bound: 64})
	hold(t, graph(api.MaxNodes), alike(api.MaxNodes, 1), 1, api.Trace{{64}}, answer{e: api.ErrSchedNode, busy: 1, bound: 64})
}

// P10.1, P10.2, P10.3: needs and cores that may not be, with schedules that might be and with such as may not: nothing is told.
func TestNeeds(t *testing.T) {
	d, need := diamond()
	traces := []api.Trace{nil, {{0}}, {{0, 4}}, {{7}, nil}, {{-1, -1, -1, -1, -1, -1, -1, -1}}, {{2}}, slices.Repeat(api.Trace{{-1}}, 4097)}
	wrong := func(d api.Dag, need []int, cores int) {
		t.Helper()
		for _, tr := range append(traces, api.Trace{alike(min(max(cores, 0), 99), -1)}) {
			hold(t, d, need, cores, tr, answer{e: api.ErrSchedForm, busy: Busy(tr)})
		}
	}
	for cores := 1; cores <= api.MaxCores; cores++ {
		for many := range 5 {
			wrong(d, need[:many], cores)
		}
		wrong(d, append(need[:5:5], 1), cores)
		wrong(d, alike(64, 1), cores)
		wrong(d, alike(100000, 1), cores)
		wrong(api.Dag{}, row(1), cores)
		wrong(graph(1), nil, cores)
		for n := range need {
			for _, ticks := range append(far, -1, 0, api.MaxWork+1) {
				l := slices.Clone(need)
				l[n] = ticks
				wrong(d, l, cores)
			}
			for _, ticks := range []int{1, api.MaxWork} {
				l := slices.Clone(need)
				l[n] = ticks
				hold(t, d, l, cores, nil, answer{ends: alike(5, -1), greedy: true, bound: boundByWords(d, l, cores)})
			}
		}
	}
	for _, cores := range append(far, -8, -1, 0, 9, 10, 64) {
		wrong(d, need, cores)
		wrong(d, need[:4], cores)
		wrong(api.Dag{}, nil, cores)
	}
}

// P10.1, P10.2, P10.3: rows with too few and too many numbers, the first, one in between and the last, whatever else is wrong in them: but Bound and Busy tell something.
func TestRows(t *testing.T) {
	d, need := diamond()
	good := columns(row(0, 0, 2, 2, 2, 3, 3), row(4, 4, 4, 4, 1, -1, -1))
	for tick := range good {
		for _, other := range [][]int{nil, {}, {good[tick][0]}, {-1}, {9}, append(slices.Clone(good[tick]), -1), {0, 0, 0}, {-1, -1, -1}, alike(9, 7), alike(1000, -1)} {
			tr := copied(good)
			tr[tick] = other
			want := answer{e: api.ErrSchedForm, busy: Busy(tr), bound: 9}
			hold(t, d, need, 2, tr, want)
			// a number that may not be, ahead of it and behind it
			tr[0], tr[6] = slices.Clone(tr[0]), slices.Clone(tr[6])
			for _, at := range []int{0, 6} {
				if len(tr[at]) == 2 {
					tr[at][1] = 5
				}
			}
			want.busy = Busy(tr)
			hold(t, d, need, 2, tr, want)
		}
	}
	for cores := 1; cores <= api.MaxCores; cores++ {
		for many := range 11 {
			tr := api.Trace{alike(cores, -1), alike(many, -1)}
			want := answer{e: api.ErrSchedForm, bound: boundByWords(d, need, cores)}
			if many == cores {
				want.e, want.ends = api.OK, alike(5, -1)
			}
			hold(t, d, need, cores, tr, want)
		}
	}
}

// spoilt is a way to make the diamond wrong, and its error.
type spoilt struct {
	e     api.Errno
	spoil func(d *api.Dag)
}

// wrongGraphs are ways to make the diamond wrong, of each of chapter 4's errors, by rising errors.
func wrongGraphs() []spoilt {
	return []spoilt{
		{api.ErrDagMany, func(d *api.Dag) { d.Work = append(d.Work, alike(60, 1)...) }},
		{api.ErrDagMany, func(d *api.Dag) { d.Edges = append(d.Edges, make([]api.Edge, 253)...) }},
		{api.ErrDagWork, func(d *api.Dag) { d.Work[4] = -1 }},
		{api.ErrDagWork, func(d *api.Dag) { d.Work[0] = api.MaxWork + 1 }},
		{api.ErrDagWork, func(d *api.Dag) { d.Work[1] = math.MinInt }},
		{api.ErrDagEdge, func(d *api.Dag) { d.Edges[3].To = len(d.Work) }},
		{api.ErrDagEdge, func(d *api.Dag) { d.Edges[0].From = -1 }},
		{api.ErrDagEdge, func(d *api.Dag) { d.Edges[1] = api.Edge{From: 2, To: 2} }},
		{api.ErrDagEdge, func(d *api.Dag) { d.Edges[2] = d.Edges[3] }},
		{api.ErrDagRound, func(d *api.Dag) { d.Edges = append(d.Edges, api.Edge{From: 3, To: 0}) }},
	}
}

// P10.1, P10.2, P10.3: each of chapter 4's errors, alone and with each later one, whatever needs, cores and rows there are: the graph's is told.
func TestWrongGraphs(t *testing.T) {
	_, need := diamond()
	ask := func(d api.Dag, e api.Errno) {
		t.Helper()
		for _, need := range [][]int{need, nil, row(1, 1, 1, 1, 0), alike(65, 1)} {
			for _, cores := range append(far, -1, 0, 1, 2, 9) {
				for _, tr := range []api.Trace{nil, {{0, 4}}, {{9, 9}}, {{0, 4}, nil}, slices.Repeat(api.Trace{{-1, -1}}, 4097)} {
					hold(t, d, need, cores, tr, answer{e: e, busy: Busy(tr)})
				}
			}
		}
	}
	for i, first := range wrongGraphs() {
		d, _ := diamond()
		first.spoil(&d)
		ask(d, first.e)
		for _, other := range wrongGraphs()[i+1:] {
			d, _ := diamond()
			first.spoil(&d)
			other.spoil(&d)
			ask(d, first.e)
		}
	}
	for _, n := range far {
		d, _ := diamond()
		d.Work[2] = n
		ask(d, api.ErrDagWork)
		d, _ = diamond()
		d.Edges[2].From = n
		ask(d, api.ErrDagEdge)
	}
}

// eachRow hands out each row of so many numbers, from -2 up to a greatest one.
func eachRow(cores, greatest int, give func(row []int)) {
	row := alike(cores, -2)
	for {
		give(slices.Clone(row))
		core := 0
		for core < cores && row[core] == greatest {
			row[core] = -2
			core++
		}
		if core == cores {
			return
		}
		row[core]++
	}
}

// smallGraphs are all graphs of three nodes whose edges rise, by two other names for the nodes.
func smallGraphs() []api.Dag {
	var l []api.Dag
	rising := edges(0, 1, 0, 2, 1, 2)
	for i, name := range [][]int{{0, 1, 2}, {2, 0, 1}, {1, 2, 0}} {
		for bits := range 8 {
			d := graph(3)
			for j, e := range rising {
				if bits>>j&1 == 1 {
					d.Edges = append(d.Edges, api.Edge{From: name[e.From], To: name[e.To]})
				}
			}
			if i == 0 || bits != 0 {
				l = append(l, d)
			}
		}
	}
	return l
}

// P10.1 to P10.4: all short schedules of small graphs, as far as nothing is wrong in them but in their last row, held against the chapter's words.
func TestSmall(t *testing.T) {
	told := map[api.Errno]int{}
	lazy, late, graham := 0, 0, 0
	for i, d := range smallGraphs() {
		need := [][]int{{1, 1, 1}, {2, 1, 1}, {1, 2, 1}, {1, 3, 2}}[i%4]
		for cores, ticks := range []int{0, 6, 4} {
			var extend func(tr api.Trace)
			extend = func(tr api.Trace) {
				want := byWords(d, need, cores, tr)
				hold(t, d, need, cores, tr, want)
				if t.Failed() {
					t.FailNow()
				}
				told[want.e]++
				switch {
				case want.e != api.OK:
					return
				case !want.greedy:
					lazy++
					if slices.Max(want.ends) > want.bound {
						late++
					}
				case slices.Min(want.ends) > 0:
					graham++
					holdGraham(t, d, need, cores, tr)
				}
				if len(tr) < ticks {
					eachRow(cores, 3, func(row []int) { extend(append(tr[:len(tr):len(tr)], row)) })
				}
			}
			if cores > 0 {
				extend(nil)
			}
		}
	}
	for e := api.ErrSchedNode; e <= api.ErrSchedOver; e++ {
		if told[e] < 100 {
			t.Error("too few of a kind", e, told)
		}
	}
	if told[api.OK] < 1000 || lazy < 1000 || late < 100 || graham < 100 {
		t.Error("too few of a kind", told, lazy, late, graham)
	}
}

// P10.1 to P10.3: schedules by chance, on up to eight cores, whole, cut, and with numbers that were changed or put into other places, held against the chapter's words.
func TestChance(t *testing.T) {
	c := chance(3)
	told := map[api.Errno]int{}
	greedy, whole := 0, 0
	for range 6000 {
		count := 1 + c.next(9)
		d := c.graph(count, 12)
		need, cores := c.needs(count, 1+c.next(6)), 1+c.next(8)
		tr, ends := c.work(d, need, cores, 30, c.next(3)*20)
		hold(t, d, need, cores, tr, byWords(d, need, cores, tr))
		if l := Ends(d, need, cores, tr); !slices.Equal(l, ends) {
			t.Error(d, need, tr, l, ends)
		}
		for range c.next(4) {
			a, b := c.next(len(tr)), c.next(len(tr))
			i, j := c.next(cores), c.next(cores)
			switch c.next(6) {
			case 0:
				tr[a][i] = c.next(count+4) - 3
			case 1:
				tr[a][i] = -1
			case 2:
				tr[a][i] = tr[b][j]
			case 3:
				tr[a][i], tr[a][j] = tr[a][j], tr[a][i]
			case 4:
				tr[a], tr[b] = tr[b], tr[a]
			case 5:
				tr = append(tr, slices.Clone(tr[a]))
			}
		}
		want := byWords(d, need, cores, tr)
		hold(t, d, need, cores, tr, want)
		if t.Failed() {
			t.FailNow()
		}
		told[want.e]++
		if want.greedy {
			greedy++
		}
		if want.e == api.OK && slices.Min(want.ends) > 0 {
			whole++
		}
	}
	for e := api.ErrSchedNode; e <= api.ErrSchedOver; e++ {
		if told[e] < 100 {
			t.Error("too few of a kind", e, told)
		}
	}
	if told[api.OK] < 1000 || greedy < 500 || whole < 500 || told[api.OK]-greedy < 500 {
		t.Error("too few of a kind", told, greedy, whole)
	}
}

// P10.2: Greedy: who may begin while a core has nothing, and who not.
func TestGreedy(t *testing.T) {
	for i, x := range []struct {
		d      api.Dag
		need   []int
		t      api.Trace
		greedy bool
	}{
		// the other node waits; runs; ran; stopped; hasn't run
		{graph(2, 0, 1), row(2, 1), columns(row(0, 0), row(-1, -1)), true},
		{graph(2), row(2, 2), columns(row(0, 0, -1), row(1, 1, -1)), true},
		{graph(2), row(2, 1), columns(row(0, 0), row(1, -1)), true},
		{graph(2), row(2, 2), columns(row(0, 0), row(1, -1)), true},
		{graph(2), row(2, 1), columns(row(0, 0), row(-1, 1)), false},
		{graph(2), row(2, 1), columns(row(0, 0), row(-1, -1)), false},
		// one that is idle on the first core, on the last one, in the last row
		{graph(3), row(1, 2, 1), columns(row(-1, 0, 2), row(1, 1, -1)), false},
		{graph(3), row(1, 2, 1), columns(row(0, -1, 2), row(1, 1, -1)), false},
		{graph(3), row(1, 3, 1), columns(row(0, 2, -1), row(1, 1, 1)), true},
		{graph(3), row(1, 3, 1), columns(row(0, -1), row(1, 1)), false},
		{graph(3), row(2, 2, 1), columns(row(0, 0), row(1, 1)), true},
		{graph(3), row(2, 2, 1), columns(row(0, 0, -1), row(1, 1, -1)), false},
		// one of two Preds is done, both are, one only just in that tick
		{graph(3, 0, 2, 1, 2), row(1, 3, 1), columns(row(0, -1, -1), row(1, 1, 1)), true},
		{graph(3, 0, 2, 1, 2), row(1, 3, 1), columns(row(0, -1, -1, -1), row(1, 1, 1, -1)), false},
		{graph(3, 0, 2, 1, 2), row(1, 3, 1), columns(row(0, -1, -1, -1), row(1, 1, 1, 2)), true},
		// a Pred that stopped isn't done any more, and neither is what waits for it
		{graph(3, 0, 1, 1, 2), row(2, 1, 1), columns(row(0, -1, -1, -1)), true},
		// one may begin on either, and does on one of them
		{graph(1), row(1), columns(row(0), row(-1)), true},
		{graph(1), row(1), columns(row(-1), row(0)), true},
		{graph(1), row(1), columns(row(-1), row(-1)), false},
		// behind all nothing is left
		{graph(1), row(1), columns(row(0, -1, -1, -1, -1)), true},
	} {
		if e := Check(x.d, x.need, len(x.t[0]), x.t); e != api.OK {
			t.Fatal(i, e)
		}
		if is := Greedy(x.d, x.need, len(x.t[0]), x.t); is != x.greedy || is != greedyByWords(x.d, x.need, x.t) {
			t.Error(i, x.t, is)
		}
	}
}

// P10.3: Busy: each number but -1, of rows of whatever lengths, whatever the numbers are.
func TestBusy(t *testing.T) {
	for i, x := range []struct {
		t    api.Trace
		want int
	}{
		{nil, 0}, {api.Trace{}, 0}, {api.Trace{nil}, 0}, {api.Trace{{}, nil, {}}, 0},
		{api.Trace{{-1}}, 0}, {api.Trace{{0}}, 1}, {api.Trace{{0, 0}}, 2}, {api.Trace{{-1, 0}, {1, -1}}, 2},
		{api.Trace{{-2}, {-3, -1}, {64}}, 3}, {api.Trace{far, far, {-1}}, 10}, {api.Trace{{1, 2, 3}, nil, {-1, 4}}, 4},
		{api.Trace(slices.Repeat([][]int{{-1, 5, -1, 6}}, 5000)), 10000},
	} {
		if many := Busy(x.t); many != x.want {
			t.Error(i, many, x.want)
		}
	}
}

// P10.3: Bound, of chains, of graphs without edges, of mixed ones, by needs and not by the graph's works, where the division comes out even and where it doesn't.
func TestBound(t *testing.T) {
	mixed, needs := diamond()
	for i, x := range []struct {
		d    api.Dag
		need []int
		// on 1 core, on 2, and so on
		want []int
	}{
		{api.Dag{}, nil, alike(8, 0)},
		{graph(1), row(1), alike(8, 1)},
		{graph(1), row(api.MaxWork), alike(8, 1000)},
		// a chain takes as long on however many cores
		{line(4), row(3, 1, 4, 2), alike(8, 10)},
		{graph(4, 3, 2, 2, 1, 1, 0), row(3, 1, 4, 2), alike(8, 10)},
		// without edges: C 12 and L 3; C 13 and L 4; C 5 and L 1
		{graph(4), alike(4, 3), row(12, 7, 6, 5, 4, 4, 4, 4)},
		{graph(4), row(3, 4, 3, 3), row(13, 8, 7, 6, 5, 5, 5, 5)},
		{graph(5), alike(5, 1), row(5, 3, 2, 2, 1, 1, 1, 1)},
		// C 12, and L 7: 0, 2 and 3
		{mixed, needs, row(12, 9, 8, 8, 8, 7, 7, 7)},
		// a way along an edge is longer than each node alone; a node alone is longer than all ways
		{graph(3, 1, 0), row(2, 3, 4), row(9, 7, 6, 6, 5, 5, 5, 5)},
		{graph(3, 1, 0), row(2, 3, 9), row(14, 11, 10, 10, 10, 9, 9, 9)},
	} {
		for cores := 1; cores <= api.MaxCores; cores++ {
			if n := Bound(x.d, x.need, cores); n != x.want[cores-1] || n != boundByWords(x.d, x.need, cores) {
				t.Error(i, cores, n, x.want[cores-1])
			}
		}
	}
}

// P10.3: Bound hangs on the needs alone, whatever the graph's works are: 0, the greatest, and others.
func TestBoundOfNeeds(t *testing.T) {
	d, need := diamond()
	for _, work := range []int{0, 1, 500, api.MaxWork} {
		d.Work = alike(5, work)
		if n := Bound(d, need, 2); n != 9 {
			t.Error(work, n)
		}
		tr := columns(row(0, 0, 2, 2, 2, 3, 3), row(4, 4, 4, 4, 1, -1, -1))
		hold(t, d, need, 2, tr, answer{ends: row(2, 5, 5, 7, 4), greedy: true, busy: 12, bound: 9})
	}
}

// P10.4: in schedules by chance that are greedy no node is done later than by Bound; some are done just by it, and others that aren't greedy later.
func TestGraham(t *testing.T) {
	c := chance(5)
	just, late := 0, 0
	for range 3000 {
		count := 1 + c.next(14)
		d := c.graph(count, c.next(30))
		need, cores := c.needs(count, 1+c.next(9)), 1+c.next(8)
		lazy := c.next(2) * 60
		tr, ends := c.work(d, need, cores, api.MaxTicks, lazy)
		bound := Bound(d, need, cores)
		if e := Check(d, need, cores, tr); e != api.OK || slices.Min(ends) < 1 {
			t.Fatal(d, need, cores, tr, e)
		}
		switch {
		case lazy == 0 && !Greedy(d, need, cores, tr):
			t.Fatal("it is greedy", d, need, cores, tr)
		case Greedy(d, need, cores, tr):
			holdGraham(t, d, need, cores, tr)
			if slices.Max(ends) == bound {
				just++
			}
		case slices.Max(ends) > bound:
			late++
		}
	}
	if just < 300 || late < 300 {
		t.Error("too few of a kind", just, late)
	}
	// one that comes to its bound on two cores, and is no chain: but for the great node all could have run by two
	d, need := graph(3), row(1, 1, 2)
	tr := columns(row(0, 2, 2), row(1, -1, -1))
	hold(t, d, need, 2, tr, answer{ends: row(1, 1, 3), greedy: true, busy: 4, bound: 3})
}

// P1, P10.1 to P10.3: at all arguments each call answers: far numbers everywhere, and lists of all lengths.
func TestAnswers(t *testing.T) {
	c := chance(11)
	number := func() int {
		if c.next(4) == 0 {
			return far[c.next(len(far))]
		}
		return c.next(12) - 3
	}
	list := func() []int {
		l := make([]int, c.next(5))
		for i := range l {
			l[i] = number()
		}
		return l
	}
	for range 20000 {
		d := api.Dag{Work: list()}
		for range c.next(4) {
			d.Edges = append(d.Edges, api.Edge{From: number(), To: number()})
		}
		if c.next(2) == 0 {
			d = graph(c.next(5))
		}
		need, cores, tr := list(), number(), make(api.Trace, c.next(4))
		if c.next(2) == 0 {
			need = alike(len(d.Work), 1)
		}
		for i := range tr {
			tr[i] = list()
		}
		ends, is := Ends(d, need, cores, tr), Greedy(d, need, cores, tr)
		if e := Check(d, need, cores, tr); e != api.OK && (len(ends) > 0 || is) {
			t.Fatal(d, need, cores, tr, e, ends, is)
		}
		Busy(tr)
		Bound(d, need, cores)
	}
}

// spare is a row with room behind it, all of the room the same number.
func spare(l []int) []int { return append(slices.Clone(l), alike(7, 77)...)[:len(l)] }

// P10.1 to P10.3: what is handed in stays as it was, the room behind it included.
func TestKept(t *testing.T) {
	d, need := diamond()
	for i, tr := range []api.Trace{
		columns(row(0, 0, 2, 2, 2, 3, 3), row(4, 4, 4, 4, 1, -1, -1)),
		columns(row(0, 0, -1), row(4, 4, -1)),
		columns(row(0, 0, 3), row(4, 4, -1)),
		columns(row(0, 9, 0), row(4, 4, 4)),
		{{0, 4}, {0}},
		nil,
	} {
		given := api.Dag{Work: spare(d.Work), Edges: append(slices.Clone(d.Edges), edges(7, 7, 7, 7)...)[:4]}
		l := spare(need)
		rows := append(slices.Clone(tr), row(7), row(7))[:len(tr)]
		for tick := range rows {
			rows[tick] = spare(tr[tick])
		}
		Check(given, l, 2, rows)
		Ends(given, l, 2, rows)
		Greedy(given, l, 2, rows)
		Busy(rows)
		Bound(given, l, 2)
		room := func(l, was []int) bool {
			return slices.Equal(l[:len(was)+7], append(slices.Clone(was), alike(7, 77)...))
		}
		if !room(given.Work, d.Work) || !room(l, need) || !slices.Equal(given.Edges[:6], append(slices.Clone(d.Edges), edges(7, 7, 7, 7)...)) {
			t.Error(i, given, l)
		}
		for tick := range tr {
			if !room(rows[tick], tr[tick]) {
				t.Error(i, tick, rows[tick])
			}
		}
		if more := rows[:len(tr)+2]; !slices.Equal(more[len(tr)], row(7)) || !slices.Equal(more[len(tr)+1], row(7)) {
			t.Error(i, more)
		}
	}
}

// P10.2: what Ends hands out is new memory: whoever writes into it changes neither what was handed in, nor what it hands out next.
func TestNewMemory(t *testing.T) {
	d, need := diamond()
	tr := columns(row(0, 0, 2, 2, 2, 3, 3), row(4, 4, 4, 4, 1, -1, -1))
	was := copied(tr)
	for range 3 {
		l := Ends(d, need, 2, tr)
		if !slices.Equal(l, row(2, 5, 5, 7, 4)) {
			t.Error(l)
		}
		l = l[:cap(l)]
		for i := range l {
			l[i] = 99
		}
	}
	if !slices.Equal(need, row(2, 1, 3, 2, 4)) || !slices.EqualFunc(tr, was, slices.Equal) {
		t.Error(need, tr)
	}
}
