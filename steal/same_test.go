package steal

import (
	"math"
	"slices"
	"testing"

	"trefoil/api"
)

// P13.1: Same: gangs that are the same, nil and empty being one; and such that differ in one number of the crew, of a deque, of a taker, or of From.
func TestSame(t *testing.T) {
	_, whole := midway()
	whole.Deques = append(whole.Deques, api.Deque{Ring: farRing(), Top: math.MinInt, Bottom: math.MaxInt}, api.Deque{})
	if !Same(whole, cloned(whole)) {
		t.Error("the same")
	}
	differs := func(change func(g *api.Gang)) {
		t.Helper()
		if x := but(whole, change); Same(whole, x) || Same(x, whole) || !Same(x, cloned(x)) {
			t.Error(x)
		}
	}
	for _, by := range row(1, -1, 1<<32, math.MinInt) {
		for i := range whole.On {
			differs(func(g *api.Gang) { g.On[i] += by })
			differs(func(g *api.Gang) { g.From[i] += by })
			differs(func(g *api.Gang) { g.Takers[i].At += by })
			differs(func(g *api.Gang) { g.Takers[i].Top += by })
			differs(func(g *api.Gang) { g.Takers[i].Bottom += by })
			differs(func(g *api.Gang) { g.Takers[i].Got += by })
			differs(func(g *api.Gang) { g.Takers[i].End += api.TakeEnd(by) })
		}
		for i := range whole.Left {
			differs(func(g *api.Gang) { g.Left[i] += by })
		}
		for i, q := range whole.Deques {
			differs(func(g *api.Gang) { g.Deques[i].Top += by })
			differs(func(g *api.Gang) { g.Deques[i].Bottom += by })
			for k := range q.Ring {
				differs(func(g *api.Gang) { g.Deques[i].Ring[k] += by })
			}
		}
	}
	for i := range 3 {
		differs(func(g *api.Gang) { g.Takers[i].Steal = !g.Takers[i].Steal })
	}
}

// P13.1: Same: gangs of which one has fewer, more, or other places than the other.
func TestSameLengths(t *testing.T) {
	_, whole := midway()
	differs := func(change func(g *api.Gang)) {
		t.Helper()
		if x := but(whole, change); Same(whole, x) || Same(x, whole) {
			t.Error(x)
		}
	}
	for _, change := range []func(g *api.Gang){
		func(g *api.Gang) { g.On = g.On[:2] }, func(g *api.Gang) { g.On = nil }, func(g *api.Gang) { g.On = append(g.On, -1) }, func(g *api.Gang) { g.On = row(4, -1, -1) },
		func(g *api.Gang) { g.Left = g.Left[:5] }, func(g *api.Gang) { g.Left = nil }, func(g *api.Gang) { g.Left = append(g.Left, 0) },
		func(g *api.Gang) { g.From = g.From[:2] }, func(g *api.Gang) { g.From = nil }, func(g *api.Gang) { g.From = append(g.From, 0) }, func(g *api.Gang) { g.From = row(1, 0, 0) },
		func(g *api.Gang) { g.Takers = g.Takers[:2] }, func(g *api.Gang) { g.Takers = nil }, func(g *api.Gang) { g.Takers = append(g.Takers, api.Taker{}) }, func(g *api.Gang) { slices.Reverse(g.Takers) },
		func(g *api.Gang) { g.Deques = g.Deques[:2] }, func(g *api.Gang) { g.Deques = nil }, func(g *api.Gang) { g.Deques = append(g.Deques, api.Deque{}) }, func(g *api.Gang) { slices.Reverse(g.Deques) },
		func(g *api.Gang) { g.Deques[1].Ring = g.Deques[1].Ring[:63] }, func(g *api.Gang) { g.Deques[1].Ring = nil }, func(g *api.Gang) { g.Deques[2].Ring = append(g.Deques[2].Ring, 0) },
	} {
		differs(change)
	}
	empty := api.Gang{Crew: api.Crew{On: row(), Left: row()}, Deques: []api.Deque{}, Takers: []api.Taker{}, From: row()}
	if !Same(api.Gang{}, empty) || !Same(empty, api.Gang{}) || Same(empty, whole) || Same(whole, api.Gang{}) {
		t.Error("nil and empty are one")
	}
	if !Same(but(empty, func(g *api.Gang) { g.Deques = []api.Deque{{}} }), but(empty, func(g *api.Gang) { g.Deques = []api.Deque{{Ring: row()}} })) {
		t.Error("nil and empty are one, in a deque")
	}
}

// P1, P13.1 to P13.4: at all arguments each call answers: far numbers everywhere, and lists of all lengths.
func TestAnswers(t *testing.T) {
	by := chance(17)
	number := func() int {
		if by.next(4) == 0 {
			return far()[by.next(len(far()))]
		}
		return by.next(12) - 3
	}
	numbers := func(most int) []int {
		l := make([]int, by.next(most+1))
		for i := range l {
			l[i] = number()
		}
		return l
	}
	for range 8000 {
		d := api.Dag{Work: numbers(4)}
		for range by.next(4) {
			d.Edges = append(d.Edges, api.Edge{From: number(), To: number()})
		}
		if by.next(3) > 0 {
			d = graph(by.next(5))
		}
		g, need, cores := gang(numbers(3), numbers(4)), numbers(4), number()
		if by.next(3) > 0 {
			g = gang(alike(1+by.next(3), -1), alike(len(d.Work), 1+by.next(3)))
		}
		for range len(g.On) + by.next(2)*by.next(2) {
			q := filled(by.next(70), numbers(64)...)
			if by.next(9) == 0 {
				q = api.Deque{Ring: numbers(70), Top: number(), Bottom: number()}
			}
			g.Deques = append(g.Deques, q)
		}
		for k := range g.From {
			g.Takers[k] = popper(by.next(5), number(), number(), number())
			if by.next(9) == 0 {
				g.From[k], g.Takers[k] = number(), api.Taker{Steal: by.next(2) == 0, At: number(), End: api.TakeEnd(number())}
			}
		}
		hold(t, d, g, numbers(9))
		if by.next(3) > 0 {
			need = alike(len(d.Work), 1+by.next(5))
		}
		holdNew(t, d, need, cores, numbers(20))
		Same(g, gang(numbers(3), numbers(3), g.Deques...))
		if t.Failed() {
			t.FailNow()
		}
	}
}

// spare is a list with room behind it, all of the room the same thing.
func spare[T any](l []T, thing T) []T {
	return append(slices.Clone(l), slices.Repeat([]T{thing}, 7)...)[:len(l)]
}

// isSpare is whether such a list, and the room behind it, is as it was.
func isSpare[T comparable](l, was []T, thing T) bool {
	return len(l) == len(was) && slices.Equal(l[:len(was)+7], append(slices.Clone(was), slices.Repeat([]T{thing}, 7)...))
}

// spareGang is a gang with room behind all that it has.
func spareGang(g api.Gang) api.Gang {
	x := api.Gang{Crew: api.Crew{On: spare(g.On, 77), Left: spare(g.Left, 77)}, Takers: spare(g.Takers, api.Taker{At: 77}), From: spare(g.From, 77), Deques: spare(g.Deques, api.Deque{Top: 77})}
	for k, q := range g.Deques {
		x.Deques[k].Ring = spare(q.Ring, 77)
	}
	return x
}

// isSpareGang is whether such a gang, and the room behind all that it has, is as it was.
func isSpareGang(g, was api.Gang) bool {
	if !equal(g, was) || !isSpare(g.On, was.On, 77) || !isSpare(g.Left, was.Left, 77) || !isSpare(g.Takers, was.Takers, api.Taker{At: 77}) || !isSpare(g.From, was.From, 77) {
		return false
	}
	for k, q := range g.Deques {
		if !isSpare(q.Ring, was.Deques[k].Ring, 77) {
			return false
		}
	}
	return !slices.ContainsFunc(g.Deques[len(g.Deques):len(g.Deques)+7], func(q api.Deque) bool { return q.Ring != nil || q.Top != 77 || q.Bottom != 0 })
}

// P13.1 to P13.4: what is handed in stays as it was, the room behind it included.
func TestKept(t *testing.T) {
	d, right := midway()
	gangs := []api.Gang{right, gang(row(-1), alike(6, 3), filled(60, 0, 4, 5)), gang(row(4, 0, -1), row(1, 1, 3, 2, 1, 9), filled(0), filled(63, 5), filled(0)), gang(alike(8, -1), alike(6, 1), slices.Repeat([]api.Deque{filled(0, 0, 4, 5)}, 8)...), gang(row(1, 2), row(0, 1, 1, 2, 0, 0), filled(62, 3), filled(0))}
	for _, spoil := range spoils() {
		gangs = append(gangs, but(right, spoil))
	}
	for i, g := range gangs {
		given, picks := api.Dag{Work: spare(d.Work, 77), Edges: spare(d.Edges, api.Edge{From: 7})}, row(1, -5, 9, 0, 2, 1, 1, 0, 2)
		need, l, x := spare(g.Left, 77), spare(picks, 77), spareGang(g)
		Check(given, x)
		Wants(given, x)
		for core := range 9 {
			Step(given, x, core)
		}
		Calm(given, x, l)
		Calm(given, x, nil)
		Tick(given, x)
		Same(x, x)
		New(given, need, len(g.On))
		Run(given, need, len(g.On), l)
		if !isSpareGang(x, g) || !isSpare(need, g.Left, 77) || !isSpare(l, picks, 77) || !isSpare(given.Work, d.Work, 77) || !isSpare(given.Edges, d.Edges, api.Edge{From: 7}) {
			t.Error(i, given, need, l, x)
		}
	}
}

// overwrite writes into all of a list, the room behind it included.
func overwrite[T any](l []T, thing T) {
	l = l[:cap(l)]
	for i := range l {
		l[i] = thing
	}
}

// lists are all lists of numbers of a gang, of the deques' Rings, too.
func lists(g api.Gang) [][]int {
	l := [][]int{g.On, g.Left, g.From}
	for _, q := range g.Deques {
		l = append(l, q.Ring)
	}
	return l
}

// holdAlone holds that no two lists of a gang share anything, nor one of it and another list; all is overwritten then.
func holdAlone(t *testing.T, g api.Gang, others ...[]int) {
	t.Helper()
	all := append(lists(g), others...)
	for i, l := range all {
		was := make([][]int, len(all))
		for j := range all {
			was[j] = slices.Clone(all[j])
		}
		overwrite(l, 99+i)
		for j := range all {
			if j != i && !slices.Equal(all[j], was[j]) {
				t.Error("they share", i, j)
			}
		}
	}
	overwrite(g.Takers, api.Taker{At: 99})
	overwrite(g.Deques, api.Deque{Top: 99})
}

// P13.1 to P13.4: what is handed out is new memory: whoever writes into it changes neither what was handed in, nor what is handed out beside it or next.
func TestNewMemory(t *testing.T) {
	d, g := midway()
	first := cloned(g)
	ticks := gang(row(0, -1), row(1, 1, 3, 2, 4, 6), filled(0, 4), filled(0, 5))
	last := cloned(ticks)
	for range 3 {
		wants := Wants(d, g)
		begun, e := New(d, g.Left, 3)
		if want, _ := newByWords(d, g.Left, 3); !equal(begun, want) || e != api.OK || !slices.Equal(wants, row(0, 2)) {
			t.Error(begun, wants)
		}
		holdAlone(t, begun, g.Left, wants)
		g = cloned(first)
		for core := range 3 {
			if x, e := Step(d, g, core); e == api.OK {
				holdAlone(t, x)
			}
		}
		for _, picks := range [][]int{nil, row(1, 0, 1)} {
			x, steps, e := Calm(d, g, picks)
			if y, many, _ := calmByWords(d, g, picks); !equal(x, y) || steps != many || e != api.OK {
				t.Error(x, steps, int(e))
			}
			holdAlone(t, x)
		}
		// Nobody looks for nodes: what is handed out is new all the same.
		calm := gang(row(0, 4), g.Left, filled(0), filled(0))
		x, _, _ := Calm(d, calm, nil)
		holdAlone(t, x)
		if !equal(calm, gang(row(0, 4), first.Left, filled(0), filled(0))) {
			t.Error(calm)
		}
		y, done, e := Tick(d, ticks)
		if want, l, _ := tickByWords(d, ticks); !equal(y, want) || !slices.Equal(done, l) || e != api.OK {
			t.Error(y, done, int(e))
		}
		holdAlone(t, y, done)
		if !equal(g, first) || !equal(ticks, last) {
			t.Fatal(g, ticks)
		}
	}
}

// P13.4: no two rows of a schedule share anything.
func TestRowsAlone(t *testing.T) {
	d, needs := diamond()
	want, _, _, _ := runByWords(d, needs, 3, nil)
	for range 2 {
		rows, _, _ := Run(d, needs, 3, nil)
		for tick := range rows {
			if !slices.EqualFunc(rows[tick:], want[tick:], slices.Equal) {
				t.Fatal(tick, rows)
			}
			overwrite(rows[tick], 99)
		}
		rows, _, _ = Run(d, needs, 3, nil)
		for tick := len(rows) - 1; tick >= 0; tick-- {
			if !slices.EqualFunc(rows[:tick+1], want[:tick+1], slices.Equal) {
				t.Fatal(tick, rows)
			}
			overwrite(rows[tick], 99)
		}
	}
	if !slices.Equal(needs, row(2, 1, 3, 2, 4)) {
		t.Error(needs)
	}
}

// P13.1 to P13.4: nobody writes later into what is handed back: neither the same calls, asked again of it and of others, nor the calls of what comes of it.
func TestWrittenByNobody(t *testing.T) {
	d, needs := diamond()
	begun, _ := New(d, needs, 3)
	wants := Wants(d, begun)
	stepped, _ := Step(d, begun, 1)
	calm, _, _ := Calm(d, begun, row(2, 2, 2, 1, 0))
	ticked, none, _ := Tick(d, calm)
	next, done, _ := Tick(d, ticked)
	rows, _, _ := Run(d, needs, 3, nil)
	gangs := []api.Gang{begun, stepped, calm, ticked, next}
	var was []api.Gang
	for _, g := range gangs {
		was = append(was, cloned(g))
	}
	for range 3 {
		for _, g := range gangs {
			for slices.Max(g.Left) > 0 {
				for l := Wants(d, g); len(l) > 0; l = Wants(d, g) {
					g, _ = Step(d, g, l[len(l)-1])
				}
				Calm(d, g, nil)
				g, _, _ = Tick(d, g)
			}
		}
		New(d, needs, 3)
		Run(d, needs, 3, row(1, 0))
	}
	for i, g := range gangs {
		if !equal(g, was[i]) {
			t.Error(i, g, was[i])
		}
	}
	want, _, _, _ := runByWords(d, needs, 3, nil)
	if !slices.Equal(wants, row(0, 1, 2)) || len(none) != 0 || !slices.Equal(done, row(0)) || !slices.EqualFunc(rows, want, slices.Equal) {
		t.Error(wants, none, done, rows)
	}
}
