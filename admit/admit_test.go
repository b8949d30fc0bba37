package admit

import (
	"slices"
	"testing"

	"trefoil/api"
)

// side is a task of parts by their works, side by side.
func side(period, deadline int, works ...int) api.Desc {
	d := api.Desc{Period: period, Deadline: deadline}
	for _, work := range works {
		d.Parts = append(d.Parts, api.Part{Op: api.OpConst, Work: work})
	}
	return d
}

// line is a task of parts by their works, each of which waits for the one ahead of it.
func line(period, deadline int, works ...int) api.Desc {
	d := side(period, deadline, works...)
	for i := 1; i < len(works); i++ {
		d.Edges = append(d.Edges, api.Edge{From: i - 1, To: i})
	}
	return d
}

// light is a light task of one part, that is due at its period's end.
func light(period, work int) api.Desc { return side(period, period, work) }

// lights are light tasks of one part each, by their works.
func lights(period int, works ...int) []api.Desc {
	var l []api.Desc
	for _, work := range works {
		l = append(l, light(period, work))
	}
	return l
}

// heavy is a heavy task that needs so many cores, two at least: one part more, each of 1, by 2.
func heavy(cores int) api.Desc { return side(2, 2, slices.Repeat([]int{1}, cores+1)...) }

// heavies are heavy tasks, by how many cores they need.
func heavies(needs ...int) []api.Desc {
	var l []api.Desc
	for _, n := range needs {
		l = append(l, heavy(n))
	}
	return l
}

// row is tasks.
func row(l ...api.Desc) []api.Desc { return l }

// own is a row of cores, from one up to another one.
func own(from, to int) []int {
	var l []int
	for core := from; core <= to; core++ {
		l = append(l, core)
	}
	return l
}

// example is the chapter's: a heavy task that needs two cores, and two light ones that fit on one.
func example() []api.Desc { return row(heavy(2), light(4, 2), line(8, 8, 2, 1)) }

// P17.1, P17.2, P17.3: the chapter's example, whole.
func TestExample(t *testing.T) {
	l := example()
	p, e := Admit(l, 3)
	want := api.Plan{
		Shapes: []api.Shape{{Total: 3, Long: 1, Most: 1, Deadline: 2, Period: 2}, {Total: 2, Long: 2, Most: 2, Deadline: 4, Period: 4}, {Total: 3, Long: 3, Most: 2, Deadline: 8, Period: 8}},
		Cores:  [][]int{{0, 1}, {2}, {2}},
	}
	if e != api.OK || !alike(p, want) || !Same(p, want) {
		t.Fatal(p, int(e))
	}
	if !Right(p, 3) || Right(p, 2) {
		t.Error(Right(p, 3), Right(p, 2))
	}
	for core, want := range []int{0, 0, -1, -1} {
		if task := Heavy(p, core); task != want {
			t.Error(core, task)
		}
	}
	for core, want := range [][]int{nil, nil, {1, 2}, nil} {
		if tasks := Light(p, core); !slices.Equal(tasks, want) {
			t.Error(core, tasks)
		}
	}
	if p, e := Admit(l, 2); e != api.ErrAdmitFull || !alike(p, api.Plan{}) {
		t.Error(p, int(e))
	}
	if least, e := holdWords(t, l); least != 3 || e != api.OK {
		t.Error(least, int(e))
	}
}

// placing is the cores of each of some tasks, on the least number of cores that is enough.
type placing struct {
	l     []api.Desc
	least int
	want  [][]int
}

// holdPlacing holds where tasks are, on as many cores as are enough and on more, and that one less isn't.
func holdPlacing(t *testing.T, x placing) {
	t.Helper()
	for cores := x.least; cores <= 8; cores++ {
		p, e := Admit(x.l, cores)
		if e != api.OK || !slices.EqualFunc(p.Cores, x.want, slices.Equal[[]int]) || !Right(p, cores) {
			t.Error(x.l, cores, p, int(e))
		}
	}
	if least, e := holdWords(t, x.l); least != x.least || e != api.OK {
		t.Error(x.l, least, int(e))
	}
}

// P17.1: heavy tasks alone: one, several, one behind the other, up to all cores.
func TestHeaviesAlone(t *testing.T) {
	for n := 2; n <= 8; n++ {
		holdPlacing(t, placing{heavies(n), n, [][]int{own(0, n-1)}})
	}
	for _, x := range []placing{
		{heavies(2, 2), 4, [][]int{{0, 1}, {2, 3}}}, {heavies(2, 3), 5, [][]int{{0, 1}, {2, 3, 4}}}, {heavies(3, 2), 5, [][]int{{0, 1, 2}, {3, 4}}},
		{heavies(4, 4), 8, [][]int{own(0, 3), own(4, 7)}}, {heavies(6, 2), 8, [][]int{own(0, 5), {6, 7}}}, {heavies(2, 6), 8, [][]int{{0, 1}, own(2, 7)}}, {heavies(5, 3), 8, [][]int{own(0, 4), own(5, 7)}},
		{heavies(2, 2, 2), 6, [][]int{{0, 1}, {2, 3}, {4, 5}}}, {heavies(2, 3, 2), 7, [][]int{{0, 1}, {2, 3, 4}, {5, 6}}}, {heavies(3, 2, 3), 8, [][]int{own(0, 2), {3, 4}, own(5, 7)}}, {heavies(2, 2, 2, 2), 8, [][]int{{0, 1}, {2, 3}, {4, 5}, {6, 7}}},
		// by the longest way and the deadline, not by all work alone: 12 by 3, 3 by 1, and 16 by 4
		{row(side(16, 9, 6, 6, 6)), 4, [][]int{own(0, 3)}}, {row(side(8, 4, 3, 3)), 3, [][]int{own(0, 2)}}, {row(side(16, 8, 4, 4, 4, 4, 4)), 4, [][]int{own(0, 3)}}, {row(side(16, 9, 6, 6, 6), side(8, 4, 3, 3)), 7, [][]int{own(0, 3), own(4, 6)}}, {row(line(64, 63, 1, 63), side(8, 4, 3, 3)), 0, nil},
	} {
		if x.least > 0 {
			holdPlacing(t, x)
		} else if _, e := holdWords(t, x.l); e != api.ErrClassLong {
			t.Error(x.l, int(e))
		}
	}
}

// P17.1: light tasks alone: none, one, such as fit on one core, such as want two, one a core.
func TestLightsAlone(t *testing.T) {
	for _, x := range []placing{
		{nil, 1, nil}, {row(), 1, nil},
		{lights(4, 1), 1, [][]int{{0}}}, {lights(4, 4), 1, [][]int{{0}}}, {row(line(4096, 4096, slices.Repeat([]int{100}, 16)...)), 1, [][]int{{0}}}, {lights(1, 1), 1, [][]int{{0}}},
		{lights(8, 4, 3, 1), 1, [][]int{{0}, {0}, {0}}}, {lights(8, 4, 3, 2), 2, [][]int{{0}, {0}, {1}}}, {lights(4, 2, 3, 2), 2, [][]int{{1}, {0}, {1}}}, {lights(8, 3, 4, 5), 2, [][]int{{0}, {1}, {0}}}, {lights(8, 2, 3, 4, 5, 6), 3, [][]int{{0}, {1}, {2}, {1}, {0}}},
		{lights(1, 1, 1), 2, [][]int{{0}, {1}}}, {lights(4, 3, 3, 3), 3, [][]int{{0}, {1}, {2}}}, {lights(16, 9, 10, 11, 12, 13, 14, 15, 16), 8, [][]int{{7}, {6}, {5}, {4}, {3}, {2}, {1}, {0}}},
		{lights(64, 8, 8, 8, 8, 8, 8, 8, 8), 1, slices.Repeat([][]int{{0}}, 8)}, {lights(64, 8, 8, 8, 8, 8, 8, 8, 9), 2, [][]int{{0}, {0}, {0}, {0}, {0}, {0}, {1}, {0}}},
		// what blocks
		{row(light(4, 2), line(8, 8, 2, 2)), 1, [][]int{{0}, {0}}}, {row(light(4, 2), line(8, 8, 3, 1)), 2, [][]int{{1}, {0}}},
		// parts side by side are light, too, if one core is enough
		{row(side(8, 5, 1, 1, 1, 1, 1)), 1, [][]int{{0}}},
	} {
		holdPlacing(t, x)
	}
}

// P17.1: heavy tasks and light ones, whatever order they stand in: heavy ones have the cores from 0 on.
func TestBoth(t *testing.T) {
	for _, x := range []placing{
		{row(heavy(2), light(4, 2)), 3, [][]int{{0, 1}, {2}}}, {row(light(4, 2), heavy(2)), 3, [][]int{{2}, {0, 1}}},
		{row(light(8, 4), heavy(2), light(8, 4)), 3, [][]int{{2}, {0, 1}, {2}}}, {row(light(8, 4), heavy(2), light(8, 5)), 4, [][]int{{3}, {0, 1}, {2}}},
		{row(heavy(2), light(8, 1), heavy(3)), 6, [][]int{{0, 1}, {5}, {2, 3, 4}}}, {row(heavy(3), light(8, 1), heavy(2)), 6, [][]int{{0, 1, 2}, {5}, {3, 4}}},
		{row(light(8, 5), heavy(3), light(8, 4), heavy(2), light(8, 3)), 7, [][]int{{5}, {0, 1, 2}, {6}, {3, 4}, {5}}},
		{row(light(4, 3), heavy(2), light(4, 3), heavy(2), light(4, 3)), 7, [][]int{{4}, {0, 1}, {5}, {2, 3}, {6}}},
		// all cores
		{row(heavy(7), light(8, 8)), 8, [][]int{own(0, 6), {7}}}, {row(light(8, 8), heavy(7)), 8, [][]int{{7}, own(0, 6)}}, {append(lights(64, 9, 9, 9, 9, 9, 9, 9), heavy(7)), 8, append(slices.Repeat([][]int{{7}}, 7), own(0, 6))},
		{append(heavies(2), lights(4, 3, 3, 4, 3, 3, 4)...), 8, [][]int{{0, 1}, {4}, {5}, {2}, {6}, {7}, {3}}}, {row(heavy(2), light(8, 7), heavy(2), light(8, 8), heavy(2), light(8, 1)), 8, [][]int{{0, 1}, {7}, {2, 3}, {6}, {4, 5}, {7}}},
	} {
		holdPlacing(t, x)
	}
}

// orders is each order of so many things.
func orders(n int) [][]int {
	if n == 0 {
		return [][]int{nil}
	}
	var l [][]int
	for _, o := range orders(n - 1) {
		for at := range n {
			l = append(l, slices.Insert(slices.Clone(o), at, n-1))
		}
	}
	return l
}

// P17.1: the same tasks in all orders: heavy ones and light ones each stand by their own order; how many cores are enough is always the same here.
func TestOrders(t *testing.T) {
	all := row(heavy(2), light(8, 5), heavy(3), light(8, 4), light(8, 3))
	for _, o := range orders(len(all)) {
		var l []api.Desc
		for _, i := range o {
			l = append(l, all[i])
		}
		p, e := Admit(l, 7)
		if least, _ := holdWords(t, l); least != 7 || e != api.OK {
			t.Fatal(o, least, int(e))
		}
		at := make([][]int, len(all))
		for k, i := range o {
			at[i] = p.Cores[k]
		}
		two, three := []int{0, 1}, []int{2, 3, 4}
		if slices.Index(o, 2) < slices.Index(o, 0) {
			two, three = []int{3, 4}, []int{0, 1, 2}
		}
		if !slices.EqualFunc(at, [][]int{two, {5}, three, {6}, {5}}, slices.Equal[[]int]) {
			t.Fatal(o, at)
		}
	}
}

// P17.3: Same of plans that differ in one number, one core, one length; nil and empty are one.
func TestSame(t *testing.T) {
	p, e := Admit(row(light(8, 5), heavy(3), light(8, 4), heavy(2)), 8)
	if e != api.OK || !Same(p, p) || !Same(p, clone(p)) || !Same(api.Plan{}, api.Plan{}) {
		t.Fatal(p, int(e))
	}
	for i, other := range []api.Plan{{Shapes: []api.Shape{}}, {Cores: [][]int{}}, {Shapes: []api.Shape{}, Cores: [][]int{}}} {
		if !Same(api.Plan{}, other) || !Same(other, api.Plan{}) {
			t.Error(i)
		}
	}
	if !Same(api.Plan{Cores: [][]int{nil}}, api.Plan{Cores: [][]int{{}}}) || Same(api.Plan{Cores: [][]int{nil}}, api.Plan{}) || Same(api.Plan{Cores: [][]int{nil}}, api.Plan{Cores: [][]int{nil, {}}}) {
		t.Error("nil")
	}
	for i := range p.Shapes {
		for k, change := range []func(p *api.Plan){
			func(p *api.Plan) { p.Shapes[i].Total++ }, func(p *api.Plan) { p.Shapes[i].Long++ }, func(p *api.Plan) { p.Shapes[i].Most++ }, func(p *api.Plan) { p.Shapes[i].Deadline++ }, func(p *api.Plan) { p.Shapes[i].Period++ },
			func(p *api.Plan) { p.Shapes[i].Total -= 1 << 32 }, func(p *api.Plan) { p.Shapes = slices.Delete(p.Shapes, i, i+1) }, func(p *api.Plan) { p.Shapes = append(p.Shapes, p.Shapes[i]) }, func(p *api.Plan) { p.Shapes[i] = api.Shape{} },
			func(p *api.Plan) { p.Cores[i][0]++ }, func(p *api.Plan) { p.Cores[i][len(p.Cores[i])-1] = -1 }, func(p *api.Plan) { p.Cores[i][0] += 1 << 32 }, func(p *api.Plan) { p.Cores[i] = nil }, func(p *api.Plan) { p.Cores[i] = append(p.Cores[i], 0) }, func(p *api.Plan) { p.Cores[i] = p.Cores[i][1:] },
			func(p *api.Plan) { p.Cores = slices.Delete(p.Cores, i, i+1) }, func(p *api.Plan) { p.Cores = append(p.Cores, nil) },
			func(p *api.Plan) { p.Cores[i], p.Cores[(i+1)%4] = p.Cores[(i+1)%4], p.Cores[i] },
			func(p *api.Plan) { p.Shapes[i], p.Shapes[(i+1)%4] = p.Shapes[(i+1)%4], p.Shapes[i] },
		} {
			other := clone(p)
			change(&other)
			if Same(p, other) || Same(other, p) || !Same(other, clone(other)) {
				t.Error(i, k)
			}
		}
	}
}
