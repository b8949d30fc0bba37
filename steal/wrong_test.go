package steal

import (
	"math"
	"slices"
	"testing"

	"trefoil/api"
)

// midway is a gang of the diamond and of 5, that stands alone, too: core 0 pops, core 1 has 5, and core 2 steals from core 0.
func midway() (api.Dag, api.Gang) {
	d := graph(6, 0, 1, 0, 2, 1, 3, 2, 3)
	g := gang(row(-1, 5, -1), row(2, 1, 3, 2, 4, 6), filled(5, 0, 4), filled(0), filled(64))
	g.Deques[0].Bottom, g.Takers[0] = 6, popper(1, 0, 6, 0)
	g.From[2], g.Takers[2] = 1, thief(2, 5, 7, 0)
	return d, g
}

// spoils are changes that make a gang one that may not be, each by one thing.
func spoils() []func(g *api.Gang) {
	l := []func(g *api.Gang){
		func(g *api.Gang) { g.Deques = nil }, func(g *api.Gang) { g.Deques = g.Deques[:2] }, func(g *api.Gang) { g.Deques = append(g.Deques, filled(0)) },
		func(g *api.Gang) { g.Takers = nil }, func(g *api.Gang) { g.Takers = g.Takers[:2] }, func(g *api.Gang) { g.Takers = append(g.Takers, api.Taker{}) },
		func(g *api.Gang) { g.From = nil }, func(g *api.Gang) { g.From = g.From[:2] }, func(g *api.Gang) { g.From = append(g.From, 0) },
		// a thief with From 0, and one who pops with another one
		func(g *api.Gang) { g.From[2] = 0 }, func(g *api.Gang) { g.Takers[0].Steal = true }, func(g *api.Gang) { g.From[0] = 1 }, func(g *api.Gang) { g.From[0] = 2 }, func(g *api.Gang) { g.Takers[2].Steal = false }, func(g *api.Gang) { g.Takers[2] = api.Taker{} }, func(g *api.Gang) { g.From[2], g.Takers[2] = 0, thief(0, 0, 0, 0) },
		// beside a node
		func(g *api.Gang) { g.Takers[1].Steal = true }, func(g *api.Gang) { g.From[1] = 1 }, func(g *api.Gang) { g.From[1] = 2 }, func(g *api.Gang) { g.From[1], g.Takers[1].Steal = 1, true }, func(g *api.Gang) { g.From[1], g.Takers[1] = 2, thief(1, 5, 0, 0) },
	}
	for _, n := range append(far(), -1, 1, 2, 4) {
		l = append(l, func(g *api.Gang) { g.Takers[1].At = n }, func(g *api.Gang) { g.Takers[1].Top = n }, func(g *api.Gang) { g.Takers[1].Bottom = n }, func(g *api.Gang) { g.Takers[1].Got = n }, func(g *api.Gang) { g.Takers[1].End = api.TakeEnd(n) })
	}
	for _, core := range row(0, 2) {
		for _, end := range append(far(), -1, 1, 2, 3, 4) {
			l = append(l, func(g *api.Gang) { g.Takers[core].End = api.TakeEnd(end) })
		}
		for _, from := range append(far(), -1, -2, 3, 4, 8) {
			l = append(l, func(g *api.Gang) { g.From[core] = from }, func(g *api.Gang) { g.From[core], g.Takers[core] = from, thief(0, 0, 0, 0) })
		}
	}
	for core := range 3 {
		for _, size := range row(0, 1, 2, 32, 63, 65, 128, 1024) {
			l = append(l, func(g *api.Gang) { g.Deques[core] = api.Deque{Ring: make([]int, size)} })
		}
		for _, top := range row(math.MinInt, -1<<40, -64, -1, api.MaxNum+1, api.MaxNum+64, 1<<42, math.MaxInt-64, math.MaxInt) {
			l = append(l, func(g *api.Gang) { g.Deques[core] = api.Deque{Ring: make([]int, 64), Top: top, Bottom: top} })
		}
		for _, more := range append(far(), -2, -3, 65, 66, 128) {
			l = append(l, func(g *api.Gang) { g.Deques[core].Bottom = g.Deques[core].Top + more })
		}
	}
	return l
}

// P13.1 to P13.4: gangs that may not be, each for one thing: ErrGangForm, whatever is asked, of whatever core, and nothing else.
func TestWrongGangs(t *testing.T) {
	d, right := midway()
	if e := hold(t, d, right, row(1, 0, 2)); e != api.OK {
		t.Fatal(int(e))
	}
	wrong := []api.Gang{gang(row(-1), alike(6, 1)), gang(row(-1), alike(6, 1), api.Deque{}), gang(alike(8, -1), alike(6, 1), filled(0)), {Crew: api.Crew{On: row(-1), Left: alike(6, 1)}}, but(gang(row(-1), alike(6, 1), filled(0)), func(g *api.Gang) { g.From[0], g.Takers[0] = 1, thief(0, 0, 0, 0) })}
	for _, spoil := range spoils() {
		wrong = append(wrong, but(right, spoil))
	}
	for i, g := range wrong {
		if e := hold(t, d, g, row(1, 0, 2)); e != api.ErrGangForm || len(Wants(d, g)) != 0 {
			t.Error(i, g, int(e))
		}
		for _, core := range append(far(), -1, 0, 1, 2, 3) {
			if x, e := Step(d, g, core); e != api.ErrGangForm || !equal(x, api.Gang{}) {
				t.Error(i, core, g, x, int(e))
			}
		}
		x, steps, e := Calm(d, g, nil)
		y, done, f := Tick(d, g)
		if e != api.ErrGangForm || f != api.ErrGangForm || !equal(x, api.Gang{}) || !equal(y, api.Gang{}) || steps != 0 || len(done) != 0 {
			t.Error(i, g, x, steps, int(e), y, done, int(f))
		}
		if t.Failed() {
			t.FailNow()
		}
	}
}

// P13.1: gangs that may be, though something in them is strange: it tells only when a step comes to it.
func TestStrangeGangs(t *testing.T) {
	d, right := midway()
	for i, change := range []func(g *api.Gang){
		func(g *api.Gang) { g.Takers[0].At = 5 }, func(g *api.Gang) { g.Takers[2].At = 4 }, func(g *api.Gang) { g.Takers[0].At = -1 }, func(g *api.Gang) { g.Takers[0].At = math.MinInt }, func(g *api.Gang) { g.Takers[2].At = math.MaxInt },
		func(g *api.Gang) { g.Takers[0].Top = -2 }, func(g *api.Gang) { g.Takers[2].Top = api.MaxNum + 1 }, func(g *api.Gang) { g.Takers[0].Bottom = math.MaxInt }, func(g *api.Gang) { g.Takers[2].Bottom = math.MinInt },
	} {
		g := but(right, change)
		if e := hold(t, d, g, row(1, 0)); e != api.OK || !slices.Equal(Wants(d, g), row(0, 2)) {
			t.Error(i, g, int(e))
		}
		_, steps, e := Calm(d, g, nil)
		if _, _, f := Tick(d, g); e != api.ErrGangForm || steps != 0 || f != api.OK {
			t.Error(i, g, int(e), int(f))
		}
	}
	for i, change := range []func(g *api.Gang){
		func(g *api.Gang) { g.Takers[0].Top, g.Takers[0].Got = 77, math.MinInt }, func(g *api.Gang) { g.Takers[0] = popper(0, math.MinInt, math.MaxInt, 9) }, func(g *api.Gang) { g.Takers[2] = thief(0, math.MaxInt, math.MinInt, -9) }, func(g *api.Gang) { g.From[2] = 2 },
		func(g *api.Gang) { g.Deques[1].Ring = farRing() }, func(g *api.Gang) { g.Deques[2] = filled(api.MaxNum) }, func(g *api.Gang) { g.Deques[2].Bottom-- },
		func(g *api.Gang) { g.Deques[1] = filled(api.MaxNum-64, alike(64, 0)...) },
	} {
		g := but(right, change)
		if e := hold(t, d, g, row(1, 0)); e != api.OK {
			t.Error(i, g, int(e))
		}
	}
}

// farRing is a Ring of far numbers.
func farRing() []int { return slices.Repeat(append(far(), -1, 77, 88), 8) }

// P13.1 to P13.4: graphs and crews that may not be: chapter 11's error, though the gang beside may not be either.
func TestWrongCrews(t *testing.T) {
	d, right := midway()
	wrong := map[api.Errno][]func(d *api.Dag, g *api.Gang){
		api.ErrDagMany:  {func(d *api.Dag, g *api.Gang) { d.Work = alike(65, 1) }, func(d *api.Dag, g *api.Gang) { d.Edges = make([]api.Edge, 257) }},
		api.ErrDagWork:  {func(d *api.Dag, g *api.Gang) { d.Work = row(1, 1, 1, 1, 1, -1) }, func(d *api.Dag, g *api.Gang) { d.Work = row(1, 1, 1, 1001, 1, 1) }},
		api.ErrDagEdge:  {func(d *api.Dag, g *api.Gang) { d.Edges = edges(0, 0) }, func(d *api.Dag, g *api.Gang) { d.Edges = edges(0, 6) }, func(d *api.Dag, g *api.Gang) { d.Edges = edges(0, 1, 0, 1) }},
		api.ErrDagRound: {func(d *api.Dag, g *api.Gang) { d.Edges = edges(0, 1, 1, 0) }},
		api.ErrCrewForm: {
			func(d *api.Dag, g *api.Gang) { g.On = nil }, func(d *api.Dag, g *api.Gang) { *g = gang(alike(9, -1), g.Left, slices.Repeat(g.Deques, 3)...) },
			func(d *api.Dag, g *api.Gang) { g.Left = alike(5, 1) }, func(d *api.Dag, g *api.Gang) { g.Left = alike(7, 1) }, func(d *api.Dag, g *api.Gang) { g.Left[0] = -1 }, func(d *api.Dag, g *api.Gang) { g.Left[0] = 1001 }, func(d *api.Dag, g *api.Gang) { g.Left[1] = 0 },
			func(d *api.Dag, g *api.Gang) { g.On[1] = -2 }, func(d *api.Dag, g *api.Gang) { g.On[1] = 6 }, func(d *api.Dag, g *api.Gang) { g.On[1] = 3 }, func(d *api.Dag, g *api.Gang) { g.On = row(4, 4, -1) }, func(d *api.Dag, g *api.Gang) { g.Left[5] = 0 },
			func(d *api.Dag, g *api.Gang) { d.Work, d.Edges = nil, nil }, func(d *api.Dag, g *api.Gang) { d.Edges = edges(0, 5) },
		},
	}
	none := func(g *api.Gang) {}
	for want, l := range wrong {
		for i, change := range l {
			for j, spoil := range append(spoils()[:3], none) {
				x, g := d, but(right, spoil)
				change(&x, &g)
				e := hold(t, x, g, row(1, 0))
				y, f := Step(x, g, 99)
				z, _, h := Calm(x, g, nil)
				if e != want || f != want || h != want || !equal(y, api.Gang{}) || !equal(z, api.Gang{}) || len(Wants(x, g)) != 0 {
					t.Error(int(want), i, j, int(e), int(f), int(h))
				}
			}
		}
	}
}

// P13.1, P13.4: New and Run of graphs, needs and cores that may not be.
func TestWrongNeeds(t *testing.T) {
	d, needs := diamond()
	for _, cores := range append(far(), -1, 0, 9, 10) {
		if e := holdNew(t, d, needs, cores, row(1)); e != api.ErrSchedForm {
			t.Error(cores, int(e))
		}
	}
	for _, need := range [][]int{nil, alike(4, 1), alike(6, 1), row(0, 1, 1, 1, 1), row(1, 1, 1, 1, -1), row(1, 1, 1001, 1, 1), row(1, math.MaxInt, 1, 1, 1), row(1, math.MinInt, 1, 1, 1), alike(5, 1<<32+1)} {
		for _, cores := range row(1, 2, 8) {
			if e := holdNew(t, d, need, cores, row(1)); e != api.ErrSchedForm {
				t.Error(need, cores, int(e))
			}
		}
	}
	for want, x := range map[api.Errno]api.Dag{api.ErrDagMany: {Work: alike(65, 1)}, api.ErrDagWork: {Work: row(-1)}, api.ErrDagEdge: {Work: row(1), Edges: edges(0, 1)}, api.ErrDagRound: {Work: row(1, 1), Edges: edges(0, 1, 1, 0)}} {
		for _, cores := range row(-1, 0, 1, 9) {
			for _, need := range [][]int{nil, alike(len(x.Work), 1), alike(5, 1000)} {
				if e := holdNew(t, x, need, cores, row(1)); e != want {
					t.Error(int(want), need, cores, int(e))
				}
			}
		}
	}
}

// P13.2: a core that isn't there, and one that has a node: which error is told where several hold.
func TestWrongCores(t *testing.T) {
	d, g := midway()
	for _, core := range append(far(), -1, -2, 3, 4, 8) {
		if x, e := Step(d, g, core); e != api.ErrGangCore || !equal(x, api.Gang{}) {
			t.Error(core, x, int(e))
		}
	}
	if x, e := Step(d, g, 1); e != api.ErrGangBusy || !equal(x, api.Gang{}) {
		t.Error(x, int(e))
	}
	// Busy ahead of what is wrong with the deque that it would take from; the core ahead of both.
	low := but(g, func(g *api.Gang) { g.Deques[1].Bottom = -1 })
	for core, want := range []api.Errno{api.OK, api.ErrGangBusy, api.OK, api.ErrGangCore} {
		if _, e := Step(d, low, core); e != want {
			t.Error(core, int(e))
		}
	}
	idle := but(low, func(g *api.Gang) { g.On[1] = -1 })
	if x, e := Step(d, idle, 1); e != api.ErrGangForm || !equal(x, api.Gang{}) {
		t.Error(x, int(e))
	}
	// A core that doesn't look for nodes does a step nonetheless, if it is idle.
	calm := gang(row(-1, -1), alike(6, 1), filled(0), filled(0))
	if x, e := Step(d, calm, 1); e != api.OK || x.Takers[1] != popper(1, 0, -1, 0) || len(Wants(d, calm)) != 0 {
		t.Error(x, int(e))
	}
}

// P13.2, P13.3: what is got and isn't ready: no node, one that runs, is done, or waits for others: ErrGangForm, by the step that gets it, and not ahead of it.
func TestNotReady(t *testing.T) {
	d, _ := diamond()
	left := row(0, 0, 3, 2, 4)
	for _, n := range append(far(), -1, -2, 5, 64, 4, 0, 1, 3) {
		base := gang(row(4, -1), left, filled(3), filled(8, n))
		pops := but(base, func(g *api.Gang) { g.Deques[1].Bottom--; g.Takers[1] = popper(1, 0, 8, 0) })
		last := but(base, func(g *api.Gang) { g.Deques[1].Bottom--; g.Deques[1].Top++; g.Takers[1] = popper(4, 8, 8, n) })
		two := but(base, func(g *api.Gang) {
			g.Deques[1] = filled(7, 2, n)
			g.Deques[1].Bottom--
			g.Takers[1] = popper(1, 0, 8, 0)
		})
		steals := but(gang(row(-1, 4), left, filled(3), filled(8, n)), func(g *api.Gang) { g.From[0], g.Takers[0] = 1, thief(3, 8, 9, n) })
		for i, x := range []struct {
			g    api.Gang
			core int
			want api.Errno
		}{{base, 1, api.OK}, {pops, 1, api.OK}, {last, 1, api.ErrGangForm}, {two, 1, api.ErrGangForm}, {steals, 0, api.ErrGangForm}} {
			y, e := Step(d, x.g, x.core)
			if e != x.want || e != api.OK && !equal(y, api.Gang{}) {
				t.Error(n, i, y, int(e))
			}
			if z, steps, e := Calm(d, x.g, nil); e != api.ErrGangForm || !equal(z, api.Gang{}) || steps != 0 {
				t.Error(n, i, z, steps, int(e))
			}
			if e := hold(t, d, x.g, row(0, 1)); e != api.OK {
				t.Error(n, i, int(e))
			}
		}
	}
	// 2 alone is ready then.
	if g, steps, e := Calm(d, gang(row(4, -1), left, filled(3), filled(8, 2)), nil); e != api.OK || steps != 4 || !slices.Equal(g.On, row(4, 2)) {
		t.Error(g, steps, int(e))
	}
}

// P13.4: a deque that is full, or whose Bottom is below Top, where a node must be pushed: ErrGangForm, and nothing else; where none must it does no harm.
func TestFull(t *testing.T) {
	d, _ := diamond()
	left := row(1, 1, 3, 2, 1)
	low := api.Deque{Ring: make([]int, 64), Top: 9, Bottom: 8}
	for i, x := range []struct {
		on        []int
		own, next api.Deque
		want      api.Errno
	}{
		{row(0, -1), filled(0, alike(62, 7)...), filled(0), api.OK}, {row(0, -1), filled(5, alike(62, 7)...), filled(0), api.OK},
		// one of two has room
		{row(0, -1), filled(0, alike(63, 7)...), filled(0), api.ErrGangForm}, {row(0, -1), filled(9, alike(64, 7)...), filled(0), api.ErrGangForm}, {row(0, 4), low, filled(0), api.ErrGangForm},
		{row(-1, 0), filled(0), filled(2, alike(63, 7)...), api.ErrGangForm}, {row(4, 0), filled(0), low, api.ErrGangForm},
		// the other core's deque, and that of one by whose node nothing gets ready
		{row(0, -1), filled(0), filled(0, alike(64, 7)...), api.OK}, {row(0, 4), filled(0), low, api.OK}, {row(4, -1), filled(0, alike(64, 7)...), low, api.OK}, {row(-1, -1), low, low, api.OK},
	} {
		g := gang(x.on, left, x.own, x.next)
		y, done, e := Tick(d, g)
		if e != x.want || e != api.OK && (!equal(y, api.Gang{}) || len(done) != 0) {
			t.Error(i, y, done, int(e))
		}
		if e := hold(t, d, g, row(0, 1)); e != api.OK {
			t.Error(i, int(e))
		}
	}
}

// P13.4: as many needs as MaxTicks, all together, and one more: New has no error, but Run.
func TestMostTicks(t *testing.T) {
	for i, x := range []struct {
		d    api.Dag
		need []int
	}{{graph(64), alike(64, 64)}, {line(5), row(1000, 1000, 1000, 1000, 96)}, {graph(64), append(row(1000, 1000, 1000, 1000, 37), alike(59, 1)...)}} {
		more := slices.Clone(x.need)
		more[len(more)-1]++
		for _, cores := range row(1, 2, 8) {
			rows := holdFollows(t, x.d, x.need, cores, row(1, 2, 3))
			if cores == 1 && len(rows) != api.MaxTicks {
				t.Error(i, len(rows))
			}
			g, e := New(x.d, more, cores)
			if y, want := newByWords(x.d, more, cores); !equal(g, y) || e != want || e != api.OK {
				t.Error(i, cores, int(e))
			}
			if rows, steps, e := Run(x.d, more, cores, row(1, 2, 3)); e != api.ErrSchedForm || len(rows) != 0 || steps != 0 {
				t.Error(i, cores, len(rows), steps, int(e))
			}
		}
	}
}
