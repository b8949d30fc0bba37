package class

import (
	"slices"
	"testing"

	"trefoil/api"
	"trefoil/list"
	"trefoil/lower"
	"trefoil/sched"
	"trefoil/steal"
)

// lowered is the graph of a task that may be.
func lowered(t *testing.T, d api.Desc) api.Dag {
	t.Helper()
	low, e := lower.Lower(d)
	if e != api.OK {
		t.Fatal(d, int(e))
	}
	return low.Dag
}

// ended is by when all is done in a schedule that may be.
func ended(t *testing.T, g api.Dag, need []int, cores int, rows api.Trace) int {
	t.Helper()
	ends := sched.Ends(g, need, cores, rows)
	if len(ends) != len(g.Work) || slices.Min(ends) < 1 || !sched.Greedy(g, need, cores, rows) {
		t.Fatal("not all is done", g, need, cores, rows)
	}
	return slices.Max(ends)
}

// listed is by when all is done off a list.
func listed(t *testing.T, g api.Dag, need []int, cores int) int {
	t.Helper()
	rows, e := list.Run(g, need, cores)
	if e != api.OK {
		t.Fatal(g, need, cores, int(e))
	}
	return ended(t, g, need, cores, rows)
}

// stolen is by when all is done by cores that steal.
func stolen(t *testing.T, g api.Dag, need []int, cores int, picks []int) int {
	t.Helper()
	rows, _, e := steal.Run(g, need, cores, picks)
	if e != api.OK {
		t.Fatal(g, need, cores, int(e))
	}
	return ended(t, g, need, cores, rows)
}

// holdDeadline holds that a task whose cores are told is done by its deadline on those, off a list and stolen by each of the picks: the latest one that it was done by.
func holdDeadline(t *testing.T, d api.Desc, need []int, picks ...[]int) int {
	t.Helper()
	s, _ := Shape(d)
	cores, e := Cores(s)
	if e != api.OK {
		t.Fatal(d, s, int(e))
	}
	g := lowered(t, d)
	latest := listed(t, g, need, cores)
	for _, l := range append(picks, nil) {
		latest = max(latest, stolen(t, g, need, cores, l))
	}
	if latest > Bound(s, cores) || latest > s.Deadline {
		t.Fatal(d, s, need, cores, latest)
	}
	return latest
}

// needs is needs by chance, of which none is above the work of its node.
func (c *chance) needs(work []int) []int {
	l := slices.Clone(work)
	for n, most := range work {
		l[n] = 1 + c.next(most)
	}
	return l
}

// picks is so many picks by chance.
func (c *chance) picks(count int) []int {
	l := make([]int, count)
	for i := range l {
		l[i] = c.next(20)
	}
	return l
}

// tight gives a task the least deadline by which so many cores are told to be enough, if there is one: false, if there is none.
func tight(d api.Desc, cores int) (api.Desc, bool) {
	d.Period = api.MaxPeriod
	for d.Deadline = 1; d.Deadline < 1700; d.Deadline++ {
		s, _ := Shape(d)
		if n, e := Cores(s); e == api.OK && n <= cores {
			return d, n == cores
		}
	}
	return d, false
}

// P14.3: many tasks by chance, heavy and light, with the least deadline for each count of cores: on those they are done by it, off a list and however they are stolen, by all of their work, by less, and by the least.
func TestDoneByDeadline(t *testing.T) {
	c := chance(3)
	counts := [9]int{}
	closest := 0
	for range 120 {
		d, ok := tight(c.task(c.works(16, 1+c.next(12)), 1+c.next(10)), 1+c.next(8))
		if !ok {
			continue
		}
		s, _ := Shape(d)
		cores, _ := Cores(s)
		counts[cores]++
		work := lowered(t, d).Work
		for _, need := range [][]int{work, c.needs(work), c.needs(work), alike(len(work), 1)} {
			latest := holdDeadline(t, d, need, c.picks(2000), c.picks(60), alike(3000, 0), alike(3000, 7))
			if latest == s.Deadline {
				closest++
			}
		}
	}
	if slices.Min(counts[1:]) < 3 || closest < 10 {
		t.Error("too few of a kind", counts, closest)
	}
}

// P14.3: a small task by all needs up to its nodes' work, and by all picks of its first steps.
func TestAllNeedsAndPicks(t *testing.T) {
	for i, x := range []struct {
		d     api.Desc
		cores int
	}{
		{of(row(2, 1, 3, 2), func(d *api.Desc) { d.Deadline, d.Edges = 7, edges(0, 3, 1, 3) }), 2},
		{of(row(2, 3, 2), func(d *api.Desc) { d.Deadline, d.Futures = 6, futures(0, 1, 2) }), 2},
		{of(row(2, 1, 2), func(d *api.Desc) { d.Deadline, d.Barriers = 5, []api.Barrier{{In: row(0), Out: row(1)}} }), 2},
		{of(row(1, 2, 2, 1), func(d *api.Desc) { d.Deadline = 4 }), 2},
		{of(row(2, 2, 2), func(d *api.Desc) { d.Deadline, d.Edges = 6, edges(0, 1) }), 1},
	} {
		s := shaped(t, x.d)
		if n, e := Cores(s); n != x.cores || e != api.OK {
			t.Fatal(i, s, n, int(e))
		}
		var picks [][]int
		for bits := range 1 << 8 {
			l := make([]int, 8)
			for k := range l {
				l[k] = bits >> k & 1
			}
			picks = append(picks, append(l, alike(30, bits%2)...))
		}
		work := lowered(t, x.d).Work
		need := alike(len(work), 1)
		for n := 0; n < len(work); {
			holdDeadline(t, x.d, need, picks...)
			for n = 0; n < len(work); n++ {
				need[n]++
				if need[n] <= work[n] {
					break
				}
				need[n] = 1
			}
		}
	}
}

// P14.3: tasks that are done right at their deadline, on just as many cores as are told: so none less would be right to tell, nor a Bound that is less.
func TestNoSooner(t *testing.T) {
	for cores := 2; cores <= api.MaxCores; cores++ {
		// all cores have a node of 8 first, and the long one begins behind those
		d := of(append(alike(cores, 8), 13), func(d *api.Desc) { d.Deadline = 21 })
		s := shaped(t, d)
		if n, e := Cores(s); s != shape(8*cores+13, 13, 13, 21, 64) || n != cores || e != api.OK || Bound(s, n) != 21 {
			t.Error(cores, s, n, int(e), Bound(s, n))
		}
		g := lowered(t, d)
		if n := listed(t, g, g.Work, cores); n != 21 {
			t.Error(cores, n)
		}
		d.Deadline--
		if n, e := Cores(shaped(t, d)); n == cores || e == api.OK && n < cores {
			t.Error(cores, n, int(e))
		}
	}
}

// P14.3: of these one core less is too few, indeed: off a list they aren't done by their deadline.
func TestOneCoreLess(t *testing.T) {
	for i, x := range []struct {
		works    []int
		deadline int
		cores    int
	}{
		{append(alike(2, 1), 2), 3, 2}, {append(alike(6, 1), 3), 5, 3}, {append(alike(12, 1), 4), 7, 4},
		{append(alike(2, 50), 100), 150, 2}, {append(alike(6, 33), 99), 165, 3}, {append(alike(12, 25), 100), 175, 4},
	} {
		d := of(x.works, func(d *api.Desc) { d.Period, d.Deadline = 4096, x.deadline })
		if n, e := Cores(shaped(t, d)); n != x.cores || e != api.OK {
			t.Error(i, n, int(e))
		}
		g := lowered(t, d)
		if latest := holdDeadline(t, d, g.Work); latest != x.deadline {
			t.Error(i, latest)
		}
		if n := listed(t, g, g.Work, x.cores-1); n <= x.deadline {
			t.Error(i, n)
		}
	}
}

// P14.3: nodes that need less may be done later, all together: but by the deadline still.
func TestLessTakesLonger(t *testing.T) {
	d := of(row(3, 2, 2, 2, 4, 4, 4, 4, 9), func(d *api.Desc) {
		d.Deadline = 20
		d.Edges = edges(0, 8, 3, 4, 3, 5, 3, 6, 3, 7)
	})
	s := shaped(t, d)
	if n, e := Cores(s); s != shape(34, 12, 9, 20, 64) || n != 3 || e != api.OK || Bound(s, 3) != 19 {
		t.Fatal(s, n, int(e), Bound(s, 3))
	}
	g := lowered(t, d)
	less := row(2, 1, 1, 1, 3, 3, 3, 3, 8)
	if all, fewer := listed(t, g, g.Work, 3), listed(t, g, less, 3); all != 12 || fewer != 13 {
		t.Error(all, fewer)
	}
	c := chance(9)
	holdDeadline(t, d, g.Work, c.picks(300), c.picks(300))
	holdDeadline(t, d, less, c.picks(300), c.picks(300))
}
