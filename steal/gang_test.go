package steal

import (
	"slices"
	"testing"

	"trefoil/api"
)

// begun is a new gang.
func begun(t *testing.T, d api.Dag, need []int, cores int) api.Gang {
	t.Helper()
	g, e := New(d, need, cores)
	if e != api.OK {
		t.Fatal(d, need, cores, int(e))
	}
	return g
}

// P13.1 to P13.5: the chapter's example: of two cores, and node 0 alone ready, core 0 pops it, or core 1 steals it, whoever is picked.
func TestExample(t *testing.T) {
	d, need := graph(3, 0, 1, 0, 2), row(1, 1, 1)
	g := begun(t, d, need, 2)
	if !equal(g, gang(row(-1, -1), need, filled(0, 0), filled(0))) || !slices.Equal(Wants(d, g), row(0, 1)) {
		t.Error(g)
	}
	var has [2]int
	for bits := range 1 << 12 {
		picks := make([]int, 12)
		for i := range picks {
			picks[i] = bits >> i & 1
		}
		x, steps, e := Calm(d, g, picks)
		isPopped, isStolen := slices.Equal(x.On, row(0, -1)), slices.Equal(x.On, row(-1, 0))
		if e != api.OK || isPopped == isStolen || steps < 4 || len(Wants(d, x)) != 0 || x.Deques[0].Top != 1 || x.Deques[0].Bottom != 1 {
			t.Fatal(picks, x, steps, int(e))
		}
		if isPopped {
			has[0]++
		} else {
			has[1]++
		}
		if rows := holdFollows(t, d, need, 2, picks); !slices.Equal(rows[0], x.On) || len(rows) != 2 {
			t.Fatal(picks, rows)
		}
	}
	if has[0] < 50 || has[1] < 50 {
		t.Error("too few of a kind", has)
	}
	popped, steps, _ := Calm(d, g, alike(4, 0))
	if !slices.Equal(popped.On, row(0, -1)) || steps != 4 {
		t.Error(popped, steps)
	}
	// In vain from its own deque, in three steps, and from core 0's, in four.
	stolen, steps, _ := Calm(d, g, alike(7, 1))
	if !slices.Equal(stolen.On, row(-1, 0)) || steps != 7 {
		t.Error(stolen, steps)
	}
}

// P13.1: New: what is ready lies in the deques of the cores that it falls to, rising.
func TestNew(t *testing.T) {
	mixed, needs := diamond()
	for i, x := range []struct {
		d     api.Dag
		need  []int
		nodes [][]int
	}{
		{graph(0), nil, [][]int{{}}}, {graph(0), nil, [][]int{{}, {}, {}, {}, {}, {}, {}, {}}},
		{graph(1), row(1000), [][]int{{0}}}, {graph(1), row(1), [][]int{{0}, {}}},
		{graph(5), row(1, 2, 3, 4, 5), [][]int{{0, 1, 2, 3, 4}}}, {graph(5), row(1, 2, 3, 4, 5), [][]int{{0, 2, 4}, {1, 3}}}, {graph(5), row(1, 2, 3, 4, 5), [][]int{{0, 3}, {1, 4}, {2}}},
		{graph(11), alike(11, 7), [][]int{{0, 8}, {1, 9}, {2, 10}, {3}, {4}, {5}, {6}, {7}}},
		{mixed, needs, [][]int{{0, 4}}}, {mixed, needs, [][]int{{0, 4}, {}}}, {mixed, needs, [][]int{{0}, {4}, {}}}, {mixed, needs, [][]int{{0, 4}, {}, {}, {}}}, {mixed, needs, [][]int{{0}, {}, {}, {}, {4}, {}, {}, {}}},
		{graph(4, 3, 0, 2, 1), row(1, 1, 1, 1), [][]int{{2}, {3}}}, {line(9), alike(9, 2), [][]int{{0}, {}, {}}},
		{graph(9, 0, 8, 1, 8), alike(9, 1), [][]int{{0, 2, 4, 6}, {1, 3, 5, 7}}},
		{graph(64), alike(64, 1), [][]int{slices.Collect(func(yield func(int) bool) {
			for n := 0; n < 64 && yield(n); n++ {
			}
		})}},
	} {
		cores := len(x.nodes)
		want := gang(alike(cores, -1), x.need)
		for _, nodes := range x.nodes {
			want.Deques = append(want.Deques, filled(0, nodes...))
		}
		if g, e := New(x.d, x.need, cores); !equal(g, want) || e != api.OK || Check(x.d, g) != api.OK {
			t.Error(i, g, int(e))
		}
		holdNew(t, x.d, x.need, cores, row(3, 1, 4, 1, 5, 9, 2, 6))
	}
}

// P13.1: Wants: cores that have a node, such as are on the way, and such as may begin to take.
func TestWants(t *testing.T) {
	d, left := graph(6), alike(6, 5)
	none, some := filled(7), filled(7, 3)
	for i, x := range []struct {
		g    api.Gang
		want []int
	}{
		{gang(row(-1, -1, -1), left, none, none, none), nil},
		{gang(row(-1, -1, -1), left, some, none, none), row(0, 1, 2)}, {gang(row(-1, -1, -1), left, none, none, some), row(0, 1, 2)},
		{gang(row(0, -1, 2), left, some, none, none), row(1)}, {gang(row(0, 4, 2), left, some, some, some), nil}, {gang(row(-1, 4, -1), left, none, some, none), row(0, 2)},
		// without Items those that are on the way look for nodes, and nobody else
		{but(gang(row(-1, -1, -1), left, none, none, none), func(g *api.Gang) { g.Takers[1].At = 1 }), row(1)},
		{but(gang(row(-1, -1, -1), left, none, none, none), func(g *api.Gang) { g.Takers[0].At, g.Takers[2].At = 3, 4 }), row(0, 2)},
		{but(gang(row(5, -1, -1), left, none, none, none), func(g *api.Gang) { g.Takers[2].At = 2 }), row(2)},
		{but(gang(row(-1, -1, 1), left, none, none, none), func(g *api.Gang) { g.From[0], g.Takers[0] = 2, thief(3, 7, 8, 3) }), row(0)},
		// a thief that is new isn't on the way, whatever it has read
		{but(gang(row(-1, -1), left, none, none), func(g *api.Gang) { g.From[1], g.Takers[1] = 1, thief(0, 7, 9, 1) }), nil},
		{but(gang(row(-1, -1), left, none, some), func(g *api.Gang) { g.From[1], g.Takers[1] = 1, thief(0, 0, 0, 0) }), row(0, 1)},
		// Bottom below Top: no Items
		{gang(row(-1, -1), left, filled(0), api.Deque{Ring: make([]int, 64), Top: 4, Bottom: 3}), nil},
		{but(gang(row(-1, 2), left, filled(0), api.Deque{Ring: make([]int, 64), Top: 4, Bottom: 3}), func(g *api.Gang) { g.Takers[0].At = 9 }), row(0)},
		// one core, and eight
		{gang(row(-1), left, none), nil}, {gang(row(-1), left, some), row(0)}, {gang(row(3), left, some), nil},
		{gang(alike(8, -1), left, none, none, none, none, none, none, none, some), row(0, 1, 2, 3, 4, 5, 6, 7)}, {gang(row(0, 1, 2, -1, 3, 4, 5, -1), left, none, none, some, none, none, none, none, none), row(3, 7)},
		// nothing is left, and yet a number lies there
		{gang(row(-1, -1), alike(6, 0), none, some), row(0, 1)},
	} {
		if l := Wants(d, x.g); !slices.Equal(l, x.want) || Check(d, x.g) != api.OK {
			t.Error(i, l, x.want)
		}
		hold(t, d, x.g, row(1, 0, 2, 7))
	}
}

// doing is a step of a core, and what is other behind it.
type doing struct {
	core int
	to   func(g *api.Gang)
}

// holdSteps lets cores do steps, one by one, each of which has to change just that.
func holdSteps(t *testing.T, d api.Dag, g api.Gang, l []doing) api.Gang {
	t.Helper()
	for i, x := range l {
		want := but(g, x.to)
		y, e := Step(d, g, x.core)
		if e != api.OK || !equal(y, want) {
			t.Fatal(i, y, int(e), want)
		}
		if z, e := stepByWords(d, g, x.core); e != api.OK || !equal(z, want) {
			t.Fatal("the test's own words", i, z, int(e), want)
		}
		hold(t, d, y, row(0, 1, 1, 2))
		g = y
	}
	return g
}

// P13.2: each step of one who pops, in a gang: of two numbers, of the last one, and of none, behind which it steals.
func TestPopSteps(t *testing.T) {
	d, needs := diamond()
	holdSteps(t, d, begun(t, d, needs, 2), []doing{
		{0, func(g *api.Gang) { g.Deques[0].Bottom, g.Takers[0] = 1, popper(1, 0, 1, 0) }},
		{0, func(g *api.Gang) { g.On[0], g.Takers[0] = 4, popper(0, 0, 0, 0) }},
	})
	holdSteps(t, d, gang(row(4, -1), needs, filled(0), filled(66, 0)), []doing{
		{1, func(g *api.Gang) { g.Deques[1].Bottom, g.Takers[1] = 66, popper(1, 0, 66, 0) }},
		{1, func(g *api.Gang) { g.Takers[1] = popper(2, 66, 66, 0) }},
		{1, func(g *api.Gang) { g.Deques[1].Top, g.Takers[1] = 67, popper(4, 66, 66, 0) }},
		{1, func(g *api.Gang) { g.Deques[1].Bottom, g.On[1], g.Takers[1] = 67, 0, popper(0, 0, 0, 0) }},
	})
	holdSteps(t, d, gang(row(4, -1, -1), needs, filled(0), filled(5), filled(9, 0)), []doing{
		{1, func(g *api.Gang) { g.Deques[1].Bottom, g.Takers[1] = 4, popper(1, 0, 4, 0) }},
		{1, func(g *api.Gang) { g.Takers[1] = popper(3, 5, 4, 0) }},
		{1, func(g *api.Gang) { g.Deques[1].Bottom, g.From[1], g.Takers[1] = 5, 1, thief(0, 0, 0, 0) }},
	})
	// A core alone pops again: behind the last one is itself.
	holdSteps(t, d, gang(row(-1), needs, filled(0)), []doing{
		{0, func(g *api.Gang) { g.Deques[0].Bottom, g.Takers[0] = -1, popper(1, 0, -1, 0) }},
		{0, func(g *api.Gang) { g.Takers[0] = popper(3, 0, -1, 0) }},
		{0, func(g *api.Gang) { g.Deques[0].Bottom, g.Takers[0] = 0, popper(0, 0, 0, 0) }},
	})
}

// P13.2: each step of one who steals, in a gang: of what is there, and of none; From goes round behind the last core.
func TestStealSteps(t *testing.T) {
	d, needs := diamond()
	from := func(core, from int) func(g *api.Gang) {
		return func(g *api.Gang) { g.From[core], g.Takers[core] = from, thief(0, 0, 0, 0) }
	}
	// core 2 takes from core 0, that is one core on, round
	holdSteps(t, d, but(gang(row(-1, -1, -1), needs, filled(63, 0, 4), filled(3), filled(7)), from(2, 1)), []doing{
		{2, func(g *api.Gang) { g.Takers[2] = thief(1, 63, 0, 0) }},
		{2, func(g *api.Gang) { g.Takers[2] = thief(2, 63, 65, 0) }},
		{2, func(g *api.Gang) { g.Takers[2] = thief(3, 63, 65, 0) }},
		{2, func(g *api.Gang) {
			g.Deques[0].Top, g.On[2], g.From[2], g.Takers[2] = 64, 0, 0, popper(0, 0, 0, 0)
		}},
	})
	holdSteps(t, d, but(gang(row(-1, -1, -1), needs, filled(63, 4, 0), filled(3), filled(7)), from(1, 2)), []doing{
		{1, func(g *api.Gang) { g.Takers[1] = thief(1, 63, 0, 0) }},
		{1, func(g *api.Gang) { g.Takers[1] = thief(2, 63, 65, 0) }},
		{1, func(g *api.Gang) { g.Takers[1] = thief(3, 63, 65, 4) }},
		{1, func(g *api.Gang) {
			g.Deques[0].Top, g.On[1], g.From[1], g.Takers[1] = 64, 4, 0, popper(0, 0, 0, 0)
		}},
	})
	// one core on there is nothing, nor two cores on: then it pops again
	holdSteps(t, d, but(gang(row(-1, -1, -1), needs, filled(1), filled(3, 4), filled(7)), from(1, 1)), []doing{
		{1, func(g *api.Gang) { g.Takers[1] = thief(1, 7, 0, 0) }},
		{1, func(g *api.Gang) { g.From[1], g.Takers[1] = 2, thief(0, 0, 0, 0) }},
		{1, func(g *api.Gang) { g.Takers[1] = thief(1, 1, 0, 0) }},
		{1, func(g *api.Gang) { g.From[1], g.Takers[1] = 0, popper(0, 0, 0, 0) }},
		{1, func(g *api.Gang) { g.Deques[1].Bottom, g.Takers[1] = 3, popper(1, 0, 3, 0) }},
	})
}

// P13.2: takers that lose: two who steal the same number, and one who pops it meanwhile.
func TestLosers(t *testing.T) {
	d, needs := diamond()
	first := but(gang(row(-1, -1, -1), needs, filled(0, 0), filled(0), filled(0)), func(g *api.Gang) {
		g.From, g.Takers = row(0, 2, 1), []api.Taker{popper(0, 0, 0, 0), thief(3, 0, 1, 0), thief(3, 0, 1, 0)}
	})
	holdSteps(t, d, first, []doing{
		{0, func(g *api.Gang) { g.Deques[0].Bottom, g.Takers[0] = 0, popper(1, 0, 0, 0) }},
		{0, func(g *api.Gang) { g.Takers[0] = popper(2, 0, 0, 0) }},
		{2, func(g *api.Gang) {
			g.Deques[0].Top, g.On[2], g.From[2], g.Takers[2] = 1, 0, 0, popper(0, 0, 0, 0)
		}},
		// behind core 1's last From is its own deque
		{1, func(g *api.Gang) { g.From[1], g.Takers[1] = 0, popper(0, 0, 0, 0) }},
		{0, func(g *api.Gang) { g.Takers[0] = popper(3, 0, 0, 0) }},
		{0, func(g *api.Gang) { g.Deques[0].Bottom, g.From[0], g.Takers[0] = 1, 1, thief(0, 0, 0, 0) }},
	})
	holdSteps(t, d, first, []doing{
		{0, func(g *api.Gang) { g.Deques[0].Bottom, g.Takers[0] = 0, popper(1, 0, 0, 0) }},
		{0, func(g *api.Gang) { g.Takers[0] = popper(2, 0, 0, 0) }},
		{0, func(g *api.Gang) { g.Deques[0].Top, g.Takers[0] = 1, popper(4, 0, 0, 0) }},
		{2, func(g *api.Gang) { g.From[2], g.Takers[2] = 2, thief(0, 0, 0, 0) }},
		{0, func(g *api.Gang) { g.Deques[0].Bottom, g.On[0], g.Takers[0] = 1, 0, popper(0, 0, 0, 0) }},
		{1, func(g *api.Gang) { g.From[1], g.Takers[1] = 0, popper(0, 0, 0, 0) }},
	})
}

// P13.3: Calm without picks, with picks, with fewer picks than it takes steps, and with picks below 0 and above how many there are.
func TestCalm(t *testing.T) {
	d, needs := diamond()
	two := begun(t, d, needs, 2)
	for i, x := range []struct {
		picks []int
		on    []int
		steps int
	}{
		// 0, 1, 0: core 0 has 4; core 1, alone, comes to nothing by itself, and steals 0
		{nil, row(4, 0), 9},
		{row(0, 0), row(4, 0), 9}, {row(0, 0, 1, 1, 1, 1), row(4, 0), 9}, {row(0, 1, 0), row(4, 0), 9},
		// behind the picks it is the turn of the core above the one that was picked last
		{row(0), row(4, 0), 9}, {row(1), row(4, 0), 9}, {row(-1), row(4, 0), 9},
		// core 1 alone, up to its end: it steals 0; the last one, 4, is popped then, in four steps
		{row(1, 1, 1, 1, 1, 1, 1), row(4, 0), 11},
		// core 0 has lowered Bottom when core 1 sees it, and steals 0 nonetheless: so 4 is the last one, by when core 0 looks at Top
		{row(1, 1, 1, 0, 1, 1, 1, 1), row(4, 0), 11}, {row(3, -1, 5, 5, 7, 1<<40+1, 1, 1, 1), row(4, 0), 11},
	} {
		g, steps, e := Calm(d, two, x.picks)
		y, many, want := calmByWords(d, two, x.picks)
		if !equal(g, y) || steps != many || e != want || e != api.OK || !slices.Equal(g.On, x.on) || steps != x.steps {
			t.Error(i, x.picks, g, steps, int(e), y, many)
		}
	}
	// Nobody looks for nodes: no step, whatever is picked.
	for _, g := range []api.Gang{gang(row(-1, -1), needs, filled(0), filled(4)), gang(row(4, 0), needs, filled(0, 1), filled(4)), gang(row(-1), alike(5, 0), filled(0)), but(gang(row(-1, -1), needs, filled(3), filled(3)), func(g *api.Gang) { g.From[1], g.Takers[1] = 1, thief(0, 0, 0, 0) })} {
		for _, picks := range [][]int{nil, row(0), row(5, -5, 3)} {
			if x, steps, e := Calm(d, g, picks); !equal(x, g) || steps != 0 || e != api.OK {
				t.Error(picks, x, steps, int(e))
			}
		}
	}
}

// P13.3: who is picked: each number by how many look for nodes, what is left; below 0 the first; behind the picks the one above the last.
func TestPicks(t *testing.T) {
	d := graph(8)
	g := gang(row(7, -1, -1, 6, -1), alike(8, 9), filled(0), filled(0), filled(0), filled(0), filled(0, 0, 1, 2, 3, 4))
	// Behind one step it is seen who did it: a pick of 1 or less picks the first of 1, 2 and 4.
	first := func(picks []int, steps int) []int {
		var l []int
		x := g
		for i := range steps {
			y, n, e := Calm(d, but(x, func(g *api.Gang) {}), picks[min(i, len(picks)):])
			if e != api.OK || n == 0 {
				t.Fatal(picks, y, n, int(e))
			}
			wants := Wants(d, x)
			core := wants[max(picks[i], 0)%len(wants)]
			l = append(l, core)
			x, e = Step(d, x, core)
			if z, m, _ := Calm(d, x, picks[i+1:]); e != api.OK || i+1 < len(picks) && (!equal(z, y) || m != n-1) {
				t.Fatal("not the one that was picked", picks, i, core, y, z, n, m)
			}
		}
		return l
	}
	for i, x := range []struct{ picks, want []int }{
		{row(0, 1, 2), row(1, 2, 4)}, {row(2, 1, 0), row(4, 2, 1)}, {row(3, 4, 5), row(1, 2, 4)}, {row(5, 1<<32+1, 6), row(4, 4, 1)},
		{row(-1, -2, -3), row(1, 1, 1)}, {row(1, -1, 2), row(2, 1, 4)}, {append(far(), 0), row(1, 1, 2, 4, 2, 1)},
	} {
		if l := first(x.picks, len(x.picks)); !slices.Equal(l, x.want) {
			t.Error(i, x.picks, l, x.want)
		}
	}
	// one pick, of the last core that looks for nodes; then 1, 2, 4, 1, 2, ..: all of them as the words say
	for _, picks := range [][]int{row(2), row(1), row(0), row(2, 2), row(1, 0), row(0, 2, 1, 1)} {
		hold(t, d, g, picks)
	}
}

// P13.4: Tick: the nodes that are done, and by whom others get ready: they lie in the deque of the core whose node was ahead of them.
func TestTick(t *testing.T) {
	mixed, _ := diamond()
	join := graph(6, 0, 2, 1, 2, 0, 3, 1, 4, 2, 5)
	for i, x := range []struct {
		d    api.Dag
		g    api.Gang
		done []int
		to   func(g *api.Gang)
	}{
		{mixed, gang(row(-1, -1), row(2, 1, 3, 2, 4), filled(0, 0, 4), filled(0)), nil, func(g *api.Gang) {}},
		{mixed, gang(row(4, 0), row(2, 1, 3, 2, 4), filled(1), filled(0)), nil, func(g *api.Gang) { g.Left = row(1, 1, 3, 2, 3) }},
		// 0 is done: 1 and 2 are ready, rising
		{mixed, gang(row(4, 0), row(1, 1, 3, 2, 3), filled(1), filled(70)), row(0), func(g *api.Gang) {
			g.On, g.Left, g.Deques[1] = row(4, -1), row(0, 1, 3, 2, 2), filled(70, 1, 2)
		}},
		// 0 and 4 are done, and what lay there still lies ahead of what is pushed
		{mixed, gang(row(-1, 0, 4), row(1, 1, 3, 2, 1), filled(1), filled(0, 9, 8), filled(2, 7)), row(0, 4), func(g *api.Gang) {
			g.On, g.Left, g.Deques[1] = row(-1, -1, -1), row(0, 1, 3, 2, 0), filled(0, 9, 8, 1, 2)
		}},
		// 1 is done, but 3 waits for 2 still
		{mixed, gang(row(1, 2), row(0, 1, 2, 2, 0), filled(2), filled(2)), row(1), func(g *api.Gang) { g.On, g.Left = row(-1, 2), row(0, 0, 1, 2, 0) }},
		// both are done: 3 is ready, and lies with the first core, whichever node that had
		{mixed, gang(row(1, 2), row(0, 1, 1, 2, 0), filled(2), filled(2)), row(1, 2), func(g *api.Gang) {
			g.On, g.Left, g.Deques[0] = row(-1, -1), row(0, 0, 0, 2, 0), filled(2, 3)
		}},
		{mixed, gang(row(-1, 2, 1), row(0, 1, 1, 2, 0), filled(2), filled(2), filled(2)), row(1, 2), func(g *api.Gang) {
			g.On, g.Left, g.Deques[1] = row(-1, -1, -1), row(0, 0, 0, 2, 0), filled(2, 3)
		}},
		// 2 waited for 0 and 1, 3 and 4 for one of them: core 0's node was 1
		{join, gang(row(1, 0), row(1, 1, 1, 1, 1, 1), filled(0), filled(0)), row(0, 1), func(g *api.Gang) {
			g.On, g.Left, g.Deques[0], g.Deques[1] = row(-1, -1), row(0, 0, 1, 1, 1, 1), filled(0, 2, 4), filled(0, 3)
		}},
		{join, gang(row(0, 1), row(1, 1, 1, 1, 1, 1), filled(0), filled(0)), row(0, 1), func(g *api.Gang) {
			g.On, g.Left, g.Deques[0], g.Deques[1] = row(-1, -1), row(0, 0, 1, 1, 1, 1), filled(0, 2, 3), filled(0, 4)
		}},
		// what is ready, but behind none of those that are done, isn't pushed; takers on the way stay where they are
		{mixed, but(gang(row(4, -1), row(2, 1, 3, 2, 1), filled(0), filled(9)), func(g *api.Gang) { g.From[1], g.Takers[1] = 1, thief(2, 1, 2, 3) }), row(4), func(g *api.Gang) {
			g.On, g.Left = row(-1, -1), row(2, 1, 3, 2, 0)
		}},
		// what is ready may lie somewhere already: it is pushed nonetheless
		{line(2), gang(row(-1, 0), row(1, 1), filled(0, 1), filled(0, 1)), row(0), func(g *api.Gang) {
			g.On, g.Left, g.Deques[1] = row(-1, -1), row(0, 1), filled(0, 1, 1)
		}},
	} {
		want := but(x.g, x.to)
		if g, done, e := Tick(x.d, x.g); !equal(g, want) || !slices.Equal(done, x.done) || e != api.OK {
			t.Error(i, g, done, int(e), want)
		}
		hold(t, x.d, x.g, row(1, 2))
	}
}
