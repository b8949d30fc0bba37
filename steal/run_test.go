package steal

import (
	"math"
	"slices"
	"testing"

	"trefoil/api"
	"trefoil/deque"
	"trefoil/list"
	"trefoil/sched"
)

// key is all of a gang of small numbers as a text; of no more nodes than 8 each stands at one of the first 8 places.
func key(g api.Gang) string {
	var b []byte
	add := func(l ...int) {
		for _, n := range l {
			b = append(b, byte(n))
		}
	}
	add(g.On...)
	add(g.Left...)
	add(g.From...)
	for k, x := range g.Takers {
		q := g.Deques[k]
		add(x.At, x.Top, x.Bottom, x.Got, q.Top, q.Bottom)
		add(q.Ring[:8]...)
	}
	return string(b)
}

// orders is all that may come of a gang, in whatever order its cores do their steps.
type orders struct {
	t     *testing.T
	d     api.Dag
	seen  map[string]bool
	on    map[string]bool
	ended int
}

// goOn goes through all that may come of a gang.
func (o *orders) goOn(g api.Gang) {
	if o.seen[key(g)] {
		return
	}
	o.seen[key(g)] = true
	wants := Wants(o.d, g)
	for _, core := range wants {
		x, e := Step(o.d, g, core)
		if e != api.OK || Check(o.d, x) != api.OK {
			o.t.Fatal(o.d.Edges, g, core, int(e))
		}
		o.goOn(x)
	}
	if len(wants) == 0 {
		o.tick(g)
	}
}

// tick is that a tick passes in a gang of which nobody looks for nodes.
func (o *orders) tick(g api.Gang) {
	o.t.Helper()
	var lie []int
	for _, q := range g.Deques {
		lie = append(lie, deque.Items(q)...)
	}
	slices.Sort(lie)
	ready := list.Ready(o.d, g.Crew)
	if !slices.Equal(lie, ready) {
		o.t.Fatal("lost, or there twice", o.d.Edges, g, lie, ready)
	}
	if slices.Contains(g.On, -1) && len(ready) > 0 {
		o.t.Fatal("idle needlessly", o.d.Edges, g)
	}
	if slices.Max(g.Left) == 0 {
		o.ended++
		return
	}
	o.on[key(api.Gang{Crew: api.Crew{On: g.On}})] = true
	x, done, e := Tick(o.d, g)
	if y, l, want := tickByWords(o.d, g); !equal(x, y) || !slices.Equal(done, l) || e != want || e != api.OK {
		o.t.Fatal(o.d.Edges, g, x, done, int(e))
	}
	o.goOn(x)
}

// P13.2 to P13.5: nodes that several could take at once, in each order of their steps: none is lost, or got twice, no core is idle needlessly, and all is done in the end; whoever could have a node has it in one of the orders.
func TestOrders(t *testing.T) {
	for i, x := range []struct {
		d          api.Dag
		need       []int
		cores      int
		on, states int
	}{
		// each core may have the node
		{graph(1), row(1), 1, 1, 5}, {graph(1), row(2), 2, 2, 40}, {graph(1), row(1), 3, 3, 400}, {graph(1), row(1), 4, 4, 4000},
		// two nodes: each core has its own; a third one may steal either, and nobody else has that one then but core 0, or 1
		{graph(2), row(1, 1), 1, 2, 9}, {graph(2), row(1, 1), 2, 1, 20}, {graph(2), row(1, 1), 3, 4, 300}, {graph(2, 0, 1), row(1, 1), 3, 6, 900},
		// three nodes of two cores, and what lies behind others
		{graph(3), row(1, 1, 1), 2, 3, 50}, {line(3), row(1, 1, 1), 2, 6, 200}, {fork(2), row(1, 1, 1, 1), 2, 6, 200}, {fork(3), row(1, 1, 1, 1, 1), 2, 8, 300}, {fork(3), row(1, 1, 1, 1, 1), 3, 12, 3000}, {graph(4, 0, 2, 1, 2, 1, 3), row(1, 2, 1, 1), 2, 3, 50},
	} {
		o := &orders{t: t, d: x.d, seen: map[string]bool{}, on: map[string]bool{}}
		o.goOn(begun(t, x.d, x.need, x.cores))
		if len(o.on) < x.on || len(o.seen) < x.states || o.ended == 0 {
			t.Error(i, "too few of a kind", len(o.on), len(o.seen), o.ended)
		}
	}
}

// P13.4, P13.5: Run by name: one core, one node behind the other, and such as run side by side.
func TestRuns(t *testing.T) {
	mixed, needs := diamond()
	for i, x := range []struct {
		d     api.Dag
		need  []int
		picks []int
		t     api.Trace
		steps int
	}{
		{graph(1), row(2), nil, api.Trace{{0}, {0}}, 4},
		// the newest one first: each but the last in two steps
		{graph(3), row(1, 2, 1), nil, api.Trace{{2}, {1}, {1}, {0}}, 8},
		{line(3), row(1, 2, 1), row(5, -5), api.Trace{{0}, {1}, {1}, {2}}, 12},
		{mixed, row(1, 1, 2, 1, 1), nil, api.Trace{{4}, {0}, {2}, {2}, {1}, {3}}, 16},
		// core 1 steals 0, and has 1 and 2 then, of which core 0 steals 1 when 4 is done
		{mixed, needs, nil, api.Trace{{4, 0}, {4, 0}, {4, 2}, {4, 2}, {1, 2}, {3, -1}, {3, -1}}, 22},
		{graph(2), row(1, 1), nil, api.Trace{{0, 1}}, 8},
		{graph(2), row(3, 1), alike(20, 0), api.Trace{{0, 1}, {0, -1}, {0, -1}}, 8},
		{graph(1), row(1), alike(20, 1), api.Trace{{-1, 0}}, 7},
		{graph(2), row(2, 1), row(1, 1, 1, 1), api.Trace{{0, 1}, {0, -1}}, 8},
		{graph(0), nil, row(1, 2), nil, 0},
	} {
		cores := 2
		if len(x.t) > 0 {
			cores = len(x.t[0])
		}
		rows, steps, e := Run(x.d, x.need, cores, x.picks)
		if y, many, _, want := runByWords(x.d, x.need, cores, x.picks); !slices.EqualFunc(rows, y, slices.Equal) || steps != many || e != want {
			t.Error("the test's own words", i, y, many, int(want))
		}
		if !slices.EqualFunc(rows, x.t, slices.Equal) || steps != x.steps || e != api.OK {
			t.Error(i, rows, steps, int(e), x.t, x.steps)
		}
		holdFollows(t, x.d, x.need, cores, x.picks)
	}
}

// P13.4: picks that no step took in one Calm are there for the next one; each is taken once.
func TestPicksGoOn(t *testing.T) {
	by := chance(3)
	split := 0
	for range 300 {
		d, cores := fork(1+by.next(4)), 2+by.next(3)
		need, picks := by.needs(len(d.Work), 3), by.picks(60)
		rows, steps, e := Run(d, need, cores, picks)
		g, all := begun(t, d, need, cores), 0
		for _, want := range rows {
			x, n, e := Calm(d, g, picks[min(all, len(picks)):])
			if e != api.OK || !slices.Equal(x.On, want) {
				t.Fatal(d.Edges, need, picks, rows, x, int(e))
			}
			if all < len(picks) && all > 0 && n > 0 {
				split++
			}
			all += n
			g, _, _ = Tick(d, x)
		}
		if e != api.OK || all != steps || slices.Max(g.Left) != 0 {
			t.Fatal(d.Edges, need, picks, rows, steps, all, int(e))
		}
	}
	if split < 100 {
		t.Error("too few of a kind", split)
	}
}

// P13.4, P13.5: the same graphs by many different picks, on one core up to eight: whatever is picked the schedule may be, is greedy, and all is done in it; and not always is it the same one.
func TestManyPicks(t *testing.T) {
	mixed, needs := diamond()
	several := 0
	for i, x := range []struct {
		d    api.Dag
		need []int
	}{
		{mixed, needs}, {fork(9), append(row(1), count(10, 2)...)}, {graph(12), count(12, 1)}, {line(12), count(12, 1)}, {graph(64), alike(64, 1)}, {line(64), alike(64, 2)},
		{graph(10, 9, 0, 9, 1, 8, 1, 8, 2, 7, 2, 7, 3, 0, 4, 1, 4, 2, 5, 3, 5, 4, 6, 5, 6), row(3, 1, 2, 2, 1, 4, 2, 1, 3, 2)},
	} {
		for cores := 1; cores <= api.MaxCores; cores++ {
			by, kinds := chance(i+cores), map[string]bool{}
			for n := range 40 {
				picks := by.picks(50 * n)
				if n%10 == 5 {
					picks = alike(300, n)
				}
				rows := holdFollows(t, x.d, x.need, cores, picks)
				var all []byte
				for _, on := range rows {
					for _, n := range on {
						all = append(all, byte(n))
					}
				}
				kinds[string(all)] = true
			}
			if t.Failed() {
				t.FailNow()
			}
			if cores == 1 && len(kinds) != 1 {
				t.Error("a core alone has no choice", i, len(kinds))
			}
			if len(kinds) > 1 {
				several++
			}
		}
	}
	if several < 40 {
		t.Error("too few of a kind", several)
	}
}

// count is so many numbers, each one more than the one ahead of it.
func count(many, from int) []int {
	l := make([]int, many)
	for i := range l {
		l[i] = from + i
	}
	return l
}

// P13.5: without picks Calm, of a gang as Run has it, takes at most 8 m m (m + 1) steps, for each count of cores, whatever was picked up to then, and ends when nobody looks for nodes.
func TestBound(t *testing.T) {
	for cores := 1; cores <= api.MaxCores; cores++ {
		by, most, waited := chance(cores), 0, 0
		for i := range 150 {
			many := 1 + by.next(20)
			d := by.graph(many, by.next(40))
			switch i {
			case 0:
				d = graph(64)
			case 1:
				d = line(64)
			case 2:
				d = fork(62)
			}
			need, picks := by.needs(len(d.Work), 4), by.picks(1+i%3*200)
			for g := begun(t, d, need, cores); slices.Max(g.Left) > 0; {
				calm, steps, e := Calm(d, g, nil)
				if e != api.OK || steps > 8*cores*cores*(cores+1) || len(Wants(d, calm)) != 0 {
					t.Fatal(cores, d.Edges, need, steps, int(e))
				}
				most = max(most, steps)
				if len(picks) > 0 {
					calm, steps, e = Calm(d, g, picks)
					picks = picks[min(steps, len(picks)):]
				}
				if e != api.OK || slices.Contains(calm.On, -1) && len(list.Ready(d, calm.Crew)) > 0 {
					t.Fatal("idle needlessly", cores, d.Edges, need, calm, int(e))
				}
				if slices.Contains(calm.On, -1) {
					waited++
				}
				g, _, _ = Tick(d, calm)
			}
		}
		if most < 2*cores || cores > 1 && waited < 100 {
			t.Error("too few of a kind", cores, most, waited)
		}
	}
}

// P13.1 to P13.5: graphs by chance on up to eight cores, by picks by chance: each gang on the way, calm or not, held against the chapter's words, and Run against what all come to.
func TestChance(t *testing.T) {
	by := chance(7)
	for i := range 120 {
		many := 1 + by.next(14)
		d, cores := by.graph(many, by.next(30)), 1+by.next(8)
		need, picks := by.needs(many, 1+by.next(4)), by.picks(300)
		holdNew(t, d, need, cores, picks)
		holdFollows(t, d, need, cores, picks)
		for g := begun(t, d, need, cores); slices.Max(g.Left) > 0; {
			if i%3 == 0 {
				hold(t, d, g, by.picks(30))
			}
			for wants := Wants(d, g); len(wants) > 0; wants = Wants(d, g) {
				if by.next(40) == 0 {
					hold(t, d, g, by.picks(30))
				}
				g, _ = Step(d, g, wants[by.next(len(wants))])
			}
			if by.next(4) == 0 {
				hold(t, d, g, by.picks(3))
			}
			g, _, _ = Tick(d, g)
			if t.Failed() {
				t.FailNow()
			}
		}
	}
}

// P13.1 to P13.4: gangs by chance on the way through a graph, some numbers of which were changed, held against the chapter's words.
func TestSpoiltGangs(t *testing.T) {
	by := chance(13)
	told := map[api.Errno]int{}
	calmed := map[api.Errno]int{}
	for range 2500 {
		many := 1 + by.next(8)
		d, cores := by.graph(many, by.next(12)), 1+by.next(4)
		g := begun(t, d, by.needs(many, 2), cores)
		for range by.next(60) {
			wants := Wants(d, g)
			if len(wants) == 0 {
				g, _, _ = Tick(d, g)
			} else {
				g, _ = Step(d, g, wants[by.next(len(wants))])
			}
		}
		for range 1 + by.next(2) {
			core, n, number := by.next(cores), by.next(many), by.next(many+4)-2
			changes := []func(){
				func() { g.On[core] = number }, func() { g.Left[n] = by.next(3) }, func() { g.From[core] = by.next(cores) },
				func() { g.From[core], g.Takers[core] = by.next(cores), api.Taker{} }, func() { g.From[core] = by.next(cores); g.Takers[core].Steal = g.From[core] > 0 },
				func() { g.Takers[core].At = number }, func() { g.Takers[core].Top = number }, func() { g.Takers[core].Bottom = number }, func() { g.Takers[core].Got = number }, func() { g.Takers[core].End = api.TakeEnd(by.next(4)) },
				func() { g.Deques[core].Top = max(number, 0) }, func() { g.Deques[core].Bottom += by.next(5) - 2 }, func() { g.Deques[core].Ring[by.next(8)] = number },
				func() { g.Deques[core] = filled(number, alike(by.next(66), n)...) },
			}
			if by.next(3) > 0 {
				changes = changes[4:]
			}
			// A change that can't be made to these numbers isn't one.
			func() {
				defer func() { _ = recover() }()
				changes[by.next(len(changes))]()
			}()
		}
		picks := by.picks(12)
		told[hold(t, d, g, picks)]++
		_, _, e := Calm(d, g, picks)
		calmed[e]++
		if t.Failed() {
			t.FailNow()
		}
	}
	if told[api.OK] < 500 || told[api.ErrGangForm] < 200 || told[api.ErrCrewForm] < 50 || calmed[api.OK] < 200 || calmed[api.ErrGangForm] < told[api.ErrGangForm]+200 {
		t.Error("too few of a kind", told, calmed)
	}
}

// P13.5: schedules as the words say them by chance, of as many nodes, needs and cores as may be.
func TestGreat(t *testing.T) {
	by := chance(21)
	for i := range 30 {
		d, cores := by.graph(64, 256), 1+i%8
		need := by.needs(64, 64)
		rows := holdFollows(t, d, need, cores, by.picks(2000))
		if len(rows) > api.MaxTicks || sched.Busy(rows) != sum(need) {
			t.Error(cores, len(rows))
		}
	}
	if rows, _, e := Run(graph(1), row(1000), 8, row(math.MaxInt)); len(rows) != 1000 || e != api.OK {
		t.Error(len(rows), int(e))
	}
}

// sum is all numbers of a row together.
func sum(l []int) int {
	all := 0
	for _, n := range l {
		all += n
	}
	return all
}
