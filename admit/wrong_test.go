package admit

import (
	"math"
	"slices"
	"testing"

	"trefoil/api"
	"trefoil/class"
)

// fault is a task that may not be, or one that no count of cores is enough for; and the error of that.
type fault struct {
	d    api.Desc
	want api.Errno
}

// spoilt is a task that may be, of three parts, with one thing changed.
func spoilt(change func(d *api.Desc)) api.Desc {
	d := side(64, 60, 2, 5, 4)
	change(&d)
	return d
}

// wrongTasks are tasks that may not be, by each of the errors of chapter 14's Shape.
func wrongTasks() []fault {
	future := api.Future{Maker: 0, User: 1, At: 5}
	return []fault{
		{api.Desc{}, api.ErrDescMany}, {side(64, 60), api.ErrDescMany}, {side(64, 60, slices.Repeat([]int{1}, 17)...), api.ErrDescMany},
		{side(7, 7, 1), api.ErrDescTime}, {side(8, 9, 1), api.ErrDescTime}, {side(8, 0, 1), api.ErrDescTime}, {side(8192, 8, 1), api.ErrDescTime},
		{side(8, 8, 0), api.ErrDescPart}, {side(8, 8, 1, 101), api.ErrDescPart}, {side(8, 8, 1, math.MinInt), api.ErrDescPart},
		{spoilt(func(d *api.Desc) { d.Edges = []api.Edge{{From: 0, To: 3}} }), api.ErrDescEdge},
		{spoilt(func(d *api.Desc) { d.Futures = []api.Future{future} }), api.ErrDescFuture},
		{spoilt(func(d *api.Desc) { d.Barriers = make([]api.Barrier, 1) }), api.ErrDescBarrier},
		{spoilt(func(d *api.Desc) { d.Edges = []api.Edge{{From: 0, To: 1}, {From: 1, To: 0}} }), api.ErrLowRound},
	}
}

// greedyTasks are tasks that may be, for which no count of cores is enough, by chapter 14's Cores.
func greedyTasks() []fault {
	return []fault{
		{side(8, 4, 4, 1), api.ErrClassLong}, {side(8, 4, 5), api.ErrClassLong}, {line(8, 8, 5, 4), api.ErrClassLong}, {side(1, 1, 1, 1), api.ErrClassLong}, {side(64, 1, 100, 100), api.ErrClassLong},
		{heavy(9), api.ErrClassMany}, {heavy(15), api.ErrClassMany}, {side(8, 5, 4, 4, 4, 2), api.ErrClassMany}, {side(64, 3, slices.Repeat([]int{2}, 10)...), api.ErrClassMany},
	}
}

// holdNone holds that just an error is told of tasks, on all numbers of cores that may be, and that it's cores' number that is told if that may not be.
func holdNone(t *testing.T, l []api.Desc, want api.Errno) {
	t.Helper()
	for cores := 1; cores <= 8; cores++ {
		if p, e := Admit(l, cores); e != want || !alike(p, api.Plan{}) {
			t.Fatal(l, cores, p, int(e), int(want))
		}
	}
	holdWords(t, l)
}

// P17.1, P1: tasks that may not be, and such as no cores are enough for: alone, and at each place among others, whether there is room for those or not.
func TestWrongTasks(t *testing.T) {
	for _, x := range append(wrongTasks(), greedyTasks()...) {
		holdNone(t, row(x.d), x.want)
		for _, others := range [][]api.Desc{example(), lights(4, 3, 3, 3), heavies(5, 5), lights(64, 1, 1, 1, 1, 1, 1, 1)} {
			for at := range len(others) + 1 {
				holdNone(t, slices.Insert(slices.Clone(others), at, x.d), x.want)
			}
		}
	}
}

// P17.1, P1: of two tasks that may not be, the first one's error; all of Shape's errors stand ahead of Cores', wherever they stand; of two of those, the first one's.
func TestFirstTask(t *testing.T) {
	wrong, greedy := wrongTasks(), greedyTasks()
	for _, a := range wrong {
		for _, b := range wrong {
			holdNone(t, row(a.d, b.d), a.want)
			holdNone(t, row(heavy(5), a.d, light(4, 3), heavy(5), b.d, light(4, 3)), a.want)
		}
		for _, b := range greedy {
			holdNone(t, row(b.d, a.d), a.want)
			holdNone(t, row(a.d, b.d), a.want)
			holdNone(t, row(b.d, light(4, 3), b.d, heavy(5), heavy(5), a.d), a.want)
		}
	}
	for _, a := range greedy {
		for _, b := range greedy {
			holdNone(t, row(a.d, b.d), a.want)
			holdNone(t, row(heavy(5), light(4, 3), a.d, heavy(5), b.d), a.want)
		}
	}
}

// P17.1, P1: as many tasks as there may be, and one more: that error is told ahead of all others, of wrong tasks and of such as there is no room for.
func TestMany(t *testing.T) {
	for n := range 9 {
		p, e := Admit(slices.Repeat(lights(64, 1), n), 1)
		if e != api.OK || !slices.EqualFunc(p.Cores, slices.Repeat([][]int{{0}}, n), slices.Equal[[]int]) {
			t.Error(n, p, int(e))
		}
	}
	for _, d := range []api.Desc{light(64, 1), heavy(2), {}, side(7, 7, 1), heavy(9), side(8, 4, 4, 1)} {
		for _, n := range []int{9, 10, 16, 64, 256, 264, 1 << 16} {
			holdNone(t, slices.Repeat(row(d), n), api.ErrAdmitMany)
		}
	}
	holdNone(t, slices.Repeat(row(api.Desc{}), 8), api.ErrDescMany)
}

// P17.1, P1: numbers of which there may not be so many cores: that error is told ahead of all others.
func TestWrongCores(t *testing.T) {
	for i, l := range [][]api.Desc{nil, {}, example(), lights(1, 1, 1), heavies(8, 8), slices.Repeat(lights(64, 1), 9), {{}}, {side(7, 7, 1)}, {side(8, 4, 4, 1)}, {heavy(9)}} {
		for _, cores := range wrongCores {
			if p, e := Admit(l, cores); e != api.ErrAdmitMany || !alike(p, api.Plan{}) {
				t.Error(i, cores, p, int(e))
			}
		}
	}
}

// P17.1, P1: more cores are needed than there are: by one heavy task, by all together, by a light one behind them; and light ones that fit nowhere. One less than is enough, and just enough.
func TestFull(t *testing.T) {
	for i, x := range []struct {
		l     []api.Desc
		least int
	}{
		{heavies(2), 2}, {heavies(8), 8}, {heavies(2, 2), 4}, {heavies(4, 4), 8}, {heavies(2, 2, 2, 2), 8},
		{row(heavy(2), light(8, 1)), 3}, {row(light(8, 1), heavy(2)), 3}, {row(heavy(7), light(8, 1)), 8}, {row(light(8, 1), heavy(7)), 8},
		{lights(4, 3, 3), 2}, {lights(4, 3, 3, 3, 3, 3, 3, 3, 3), 8}, {append(lights(4, 3, 3, 3, 3, 3, 3), heavy(2)), 8},
		// on no number of cores
		{heavies(4, 5), 9}, {heavies(8, 8), 9}, {heavies(2, 2, 2, 2, 2), 9}, {slices.Repeat(heavies(8), 8), 9}, {row(heavy(8), light(8, 1)), 9}, {row(light(8, 1), heavy(8)), 9}, {append(lights(4, 3, 3, 3, 3, 3, 3, 3), heavy(2)), 9}, {append(heavies(4, 4), light(4096, 1)), 9}, {append(heavies(7), lights(4, 2, 3)...), 9},
	} {
		for cores := 1; cores <= 8; cores++ {
			want := api.OK
			if cores < x.least {
				want = api.ErrAdmitFull
			}
			if p, e := Admit(x.l, cores); e != want || e != api.OK && !alike(p, api.Plan{}) {
				t.Error(i, cores, p, int(e))
			}
		}
		holdWords(t, x.l)
	}
}

// sound is a plan on all cores: task 1 has cores 0 to 2, task 3 has 3 and 4; 0, 4 and 6 share core 5, 2 and 5 have 6 and 7.
func sound() api.Plan {
	return api.Plan{Shapes: shapes(lights(8, 4), heavies(3), lights(8, 7), heavies(2), lights(8, 3, 5, 1)), Cores: [][]int{{5}, {0, 1, 2}, {6}, {3, 4}, {5}, {7}, {5}}}
}

// shapes is the shapes of tasks.
func shapes(lists ...[]api.Desc) []api.Shape {
	var l []api.Shape
	for _, d := range slices.Concat(lists...) {
		s, _ := class.Shape(d)
		l = append(l, s)
	}
	return l
}

// P17.2: Right by name: on as many cores as are there and on fewer; other plans than Admit's, too.
func TestRight(t *testing.T) {
	p := sound()
	holdPlan(t, p)
	if !Right(p, 8) || Right(p, 7) {
		t.Fatal(Right(p, 8), Right(p, 7))
	}
	two, one, all := shapes(heavies(2)), shapes(lights(8, 4)), shapes(heavies(8))
	for i, x := range []struct {
		shapes []api.Shape
		cores  [][]int
		least  int
	}{
		{nil, nil, 1}, {one, [][]int{{0}}, 1}, {one, [][]int{{7}}, 8}, {two, [][]int{{0, 1}}, 2}, {two, [][]int{{6, 7}}, 8}, {two, [][]int{{0, 7}}, 8}, {two, [][]int{{2, 5}}, 6}, {all, [][]int{own(0, 7)}, 8},
		{slices.Concat(one, one), [][]int{{3}, {3}}, 4}, {slices.Concat(one, one), [][]int{{3}, {1}}, 4}, {slices.Concat(one, one), [][]int{{1}, {0}}, 2},
		{slices.Concat(one, two), [][]int{{1}, {0, 2}}, 3}, {slices.Concat(two, two), [][]int{{1, 3}, {0, 2}}, 4}, {slices.Concat(two, two), [][]int{{2, 3}, {0, 1}}, 4}, {slices.Concat(one, two, one), [][]int{{0}, {1, 2}, {0}}, 3},
		{slices.Repeat(shapes(lights(64, 8)), 8), slices.Repeat([][]int{{2}}, 8), 3}, {shapes(lights(8, 8, 8, 8, 8, 8, 8, 8, 8)), [][]int{{7}, {6}, {5}, {4}, {3}, {2}, {1}, {0}}, 8},
	} {
		p := api.Plan{Shapes: x.shapes, Cores: x.cores}
		for cores := 1; cores <= 8; cores++ {
			if Right(p, cores) != (cores >= x.least) {
				t.Error(i, cores)
			}
		}
		holdPlan(t, p)
	}
}

// P17.2, P1: each clause of the promise broken, by itself, in a plan that is right: on no number of cores it is right any more.
func TestWrongPlans(t *testing.T) {
	for i, change := range []func(p *api.Plan){
		// another count of Cores than Shapes
		func(p *api.Plan) { p.Cores = p.Cores[:6] }, func(p *api.Plan) { p.Cores = nil }, func(p *api.Plan) { p.Cores = append(p.Cores, nil) }, func(p *api.Plan) { p.Cores = append(p.Cores, []int{5}) }, func(p *api.Plan) { p.Shapes = p.Shapes[:6] }, func(p *api.Plan) { p.Shapes = nil }, func(p *api.Plan) { p.Shapes = append(p.Shapes, p.Shapes[6]) },
		// shapes that may not be
		func(p *api.Plan) { p.Shapes[6] = api.Shape{} }, func(p *api.Plan) { p.Shapes[6].Total = 0 }, func(p *api.Plan) { p.Shapes[6].Most = 2 }, func(p *api.Plan) { p.Shapes[6].Long = 0 }, func(p *api.Plan) { p.Shapes[6].Deadline = 9 }, func(p *api.Plan) { p.Shapes[6].Period = 9 }, func(p *api.Plan) { p.Shapes[1].Period = 3 }, func(p *api.Plan) { p.Shapes[1].Most = 0 }, func(p *api.Plan) { p.Shapes[1].Total = 4097 }, func(p *api.Plan) { p.Shapes[0].Total += 1 << 32 },
		// that no cores are enough for
		func(p *api.Plan) { p.Shapes[1].Long = 2 }, func(p *api.Plan) { p.Shapes[1].Total = 100 }, func(p *api.Plan) { p.Shapes[3].Deadline = 1 }, func(p *api.Plan) { p.Shapes[1].Long, p.Cores[1] = 2, nil }, func(p *api.Plan) { p.Shapes[1].Total, p.Cores[1] = 100, nil },
		// Cores that don't rise, or are out of range
		func(p *api.Plan) { p.Cores[1] = []int{0, 2, 1} }, func(p *api.Plan) { p.Cores[1] = []int{2, 1, 0} }, func(p *api.Plan) { p.Cores[1] = []int{1, 0, 2} }, func(p *api.Plan) { p.Cores[1] = []int{0, 0, 1} }, func(p *api.Plan) { p.Cores[1] = []int{0, 1, 1} }, func(p *api.Plan) { p.Cores[1] = []int{1, 1, 1} },
		func(p *api.Plan) { p.Cores[1] = []int{-1, 0, 1} }, func(p *api.Plan) { p.Cores[1] = []int{0, 1, 8} }, func(p *api.Plan) { p.Cores[6] = []int{-1} }, func(p *api.Plan) { p.Cores[6] = []int{8} }, func(p *api.Plan) { p.Cores[5] = []int{-8} }, func(p *api.Plan) { p.Cores[5] = []int{9} }, func(p *api.Plan) { p.Cores[6] = []int{math.MinInt} }, func(p *api.Plan) { p.Cores[6] = []int{math.MaxInt} }, func(p *api.Plan) { p.Cores[6] = []int{1<<32 + 5} }, func(p *api.Plan) { p.Cores[6] = []int{256 + 5} },
		func(p *api.Plan) { p.Cores[1] = []int{-1, 1, 2} }, func(p *api.Plan) { p.Cores[3] = []int{3, math.MaxInt} }, func(p *api.Plan) { p.Cores[3] = []int{math.MinInt, 4} },
		// too few or too many
		func(p *api.Plan) { p.Cores[6] = nil }, func(p *api.Plan) { p.Cores[6] = []int{} }, func(p *api.Plan) { p.Cores[6] = []int{5, 7} }, func(p *api.Plan) { p.Cores[6] = []int{5, 5} }, func(p *api.Plan) { p.Cores[1] = []int{0, 1} }, func(p *api.Plan) { p.Cores[1] = nil }, func(p *api.Plan) { p.Shapes[1].Total = 3 }, func(p *api.Plan) { p.Shapes[3].Total = 4 }, func(p *api.Plan) { p.Shapes[3].Total = 1 }, func(p *api.Plan) { p.Shapes[6].Deadline = 2; p.Shapes[6].Total = 3 },
		func(p *api.Plan) { p.Shapes[5], p.Cores[5], p.Cores[1] = p.Shapes[6], []int{5}, []int{0, 1, 2, 7} },
		// a core of two heavy tasks, of a heavy and a light one
		func(p *api.Plan) { p.Cores[3] = []int{2, 3} }, func(p *api.Plan) { p.Cores[3] = []int{0, 1} }, func(p *api.Plan) { p.Cores[3] = []int{0, 4} }, func(p *api.Plan) { p.Cores[1] = []int{0, 1, 4} }, func(p *api.Plan) { p.Cores[1] = []int{0, 3, 4} }, func(p *api.Plan) { p.Cores[6] = []int{0} }, func(p *api.Plan) { p.Cores[6] = []int{4} }, func(p *api.Plan) { p.Cores[0] = []int{2} }, func(p *api.Plan) { p.Cores[5] = []int{3} }, func(p *api.Plan) { p.Cores[3] = []int{4, 7} }, func(p *api.Plan) { p.Cores[1] = []int{0, 1, 5} },
		// light tasks that don't fit
		func(p *api.Plan) { p.Cores[5] = []int{6} }, func(p *api.Plan) { p.Cores[2] = []int{5} }, func(p *api.Plan) { p.Cores[5] = []int{5} }, func(p *api.Plan) { p.Shapes[6].Total = 2 }, func(p *api.Plan) { p.Cores[0] = []int{6} }, func(p *api.Plan) { p.Cores[0] = []int{7}; p.Shapes[0].Period = 4; p.Shapes[0].Deadline = 4 },
	} {
		p := sound()
		change(&p)
		for cores := range 10 {
			if Right(p, cores) {
				t.Error(i, cores, p)
			}
		}
		if Same(p, sound()) || Same(sound(), p) {
			t.Error(i)
		}
		holdPlan(t, p)
	}
}

// P17.2, P1: as many Shapes as there may be, and more, of shapes that fit all together; cores out of range.
func TestRightEdges(t *testing.T) {
	s := shapes(lights(64, 1))
	for _, n := range []int{0, 1, 8, 9, 10, 16, 64, 256, 264} {
		p := api.Plan{Shapes: slices.Repeat(s, n), Cores: slices.Repeat([][]int{{0}}, n)}
		for cores := 1; cores <= 8; cores++ {
			if Right(p, cores) != (n <= 8) {
				t.Error(n, cores)
			}
		}
		for i := range p.Cores {
			p.Cores[i] = []int{i % 8}
		}
		if Right(p, 8) != (n <= 8) {
			t.Error(n)
		}
		holdPlan(t, p)
	}
	for _, p := range []api.Plan{{}, {Shapes: s, Cores: [][]int{{0}}}, {Shapes: shapes(heavies(2)), Cores: [][]int{{0, 1}}}} {
		for _, cores := range wrongCores {
			if Right(p, cores) {
				t.Error(p, cores)
			}
		}
	}
}

// P17.3, P1: Heavy and Light by name: of cores that nobody has, of numbers that are no cores, of plans that may not be.
func TestWho(t *testing.T) {
	p := sound()
	long := shapes(row(side(8, 4, 4, 1)))[0]
	for i, x := range []struct {
		change func(p *api.Plan)
		core   int
		heavy  int
		light  []int
	}{
		{nil, 0, 1, nil}, {nil, 2, 1, nil}, {nil, 3, 3, nil}, {nil, 4, 3, nil}, {nil, 5, -1, []int{0, 4, 6}}, {nil, 6, -1, []int{2}}, {nil, 7, -1, []int{5}},
		{nil, -1, -1, nil}, {nil, 8, -1, nil}, {nil, math.MinInt, -1, nil}, {nil, math.MaxInt, -1, nil}, {nil, 1<<32 + 5, -1, nil}, {nil, 1 << 32, -1, nil},
		// nobody has it
		{func(p *api.Plan) { p.Cores[5] = nil }, 7, -1, nil}, {func(p *api.Plan) { p.Cores[1] = []int{0, 2} }, 1, -1, nil},
		// the first of two heavy ones; light ones beside them are told, too
		{func(p *api.Plan) { p.Cores[3] = []int{0, 1} }, 1, 1, nil}, {func(p *api.Plan) { p.Cores[1] = []int{3, 4} }, 4, 1, nil}, {func(p *api.Plan) { p.Cores[6], p.Cores[2] = []int{3}, []int{3} }, 3, 3, []int{2, 6}}, {func(p *api.Plan) { p.Cores[0] = []int{0} }, 0, 1, []int{0}},
		// several cores of a light one, none rising, one twice
		{func(p *api.Plan) { p.Cores[2] = []int{7, 5, 6, 5} }, 5, -1, []int{0, 2, 4, 6}}, {func(p *api.Plan) { p.Cores[2] = []int{7, 5, 6, 5} }, 7, -1, []int{2, 5}}, {func(p *api.Plan) { p.Cores[1] = []int{2, 1, 1} }, 1, 1, nil}, {func(p *api.Plan) { p.Cores[1] = []int{2, 1, 1} }, 2, 1, nil},
		// numbers that are no cores are told, if they stand there
		{func(p *api.Plan) { p.Cores[4] = []int{-1} }, -1, -1, []int{4}}, {func(p *api.Plan) { p.Cores[3] = []int{math.MinInt, 8} }, 8, 3, nil}, {func(p *api.Plan) { p.Cores[3] = []int{math.MinInt, 8} }, math.MinInt, 3, nil},
		// shapes that may not be are neither; heavy ones that no cores are enough for are heavy
		{func(p *api.Plan) { p.Shapes[1].Period = 3 }, 0, -1, nil}, {func(p *api.Plan) { p.Shapes[1] = api.Shape{} }, 0, -1, nil}, {func(p *api.Plan) { p.Shapes[1].Period = 3; p.Cores[3] = []int{0} }, 0, 3, nil}, {func(p *api.Plan) { p.Shapes[4].Most = 0 }, 5, -1, []int{0, 6}}, {func(p *api.Plan) { p.Shapes[0].Total, p.Shapes[6].Deadline = 0, 9 }, 5, -1, []int{4}}, {func(p *api.Plan) { p.Shapes[0], p.Shapes[4], p.Shapes[6] = api.Shape{}, api.Shape{}, api.Shape{} }, 5, -1, nil}, {func(p *api.Plan) { p.Shapes[4] = long }, 5, 4, []int{0, 6}},
		// Shapes and Cores as far as both go
		{func(p *api.Plan) { p.Shapes = p.Shapes[:4] }, 5, -1, []int{0}}, {func(p *api.Plan) { p.Shapes = p.Shapes[:3] }, 3, -1, nil}, {func(p *api.Plan) { p.Cores = p.Cores[:5] }, 5, -1, []int{0, 4}}, {func(p *api.Plan) { p.Cores = p.Cores[:1] }, 0, -1, nil}, {func(p *api.Plan) { p.Cores = nil }, 5, -1, nil}, {func(p *api.Plan) { p.Shapes = nil }, 5, -1, nil}, {func(p *api.Plan) { p.Cores = append(p.Cores, []int{5, 0}) }, 5, -1, []int{0, 4, 6}}, {func(p *api.Plan) { p.Shapes = append(p.Shapes, p.Shapes[0]) }, 5, -1, []int{0, 4, 6}},
	} {
		p := clone(p)
		if x.change != nil {
			x.change(&p)
		}
		if task, tasks := Heavy(p, x.core), Light(p, x.core); task != x.heavy || !slices.Equal(tasks, x.light) {
			t.Error(i, task, tasks)
		}
		holdPlan(t, p)
	}
	for core := -1; core <= 9; core++ {
		if Heavy(api.Plan{}, core) != -1 || len(Light(api.Plan{}, core)) != 0 {
			t.Error(core)
		}
	}
	many := api.Plan{Shapes: slices.Repeat(shapes(lights(64, 1)), 100), Cores: slices.Repeat([][]int{{3}}, 100)}
	if l := Light(many, 3); !slices.Equal(l, own(0, 99)) || Heavy(many, 3) != -1 {
		t.Error(l)
	}
}

// roomy is a list with spare room, in which marks stand.
func roomy[T any](l []T, mark T) []T {
	all := append(append([]T{}, l...), mark, mark, mark)
	return all[:len(l)]
}

// isKept is whether a list of spare room is as it was: what stands in it, and the marks.
func isKept[T comparable](l, was []T, mark T) bool {
	all := l[:len(l)+3]
	return slices.Equal(all, append(append([]T{}, was...), mark, mark, mark))
}

// roomyTask is a task whose lists have spare room, in which marks stand.
func roomyTask(was api.Desc) api.Desc {
	d := was
	d.Parts, d.Edges, d.Futures = roomy(was.Parts, api.Part{Op: 77}), roomy(was.Edges, api.Edge{From: 77}), roomy(was.Futures, api.Future{At: 77})
	return d
}

// isTaskKept is whether a task of spare room is as it was.
func isTaskKept(d, was api.Desc) bool {
	return d.Period == was.Period && d.Deadline == was.Deadline &&
		isKept(d.Parts, was.Parts, api.Part{Op: 77}) && isKept(d.Edges, was.Edges, api.Edge{From: 77}) && isKept(d.Futures, was.Futures, api.Future{At: 77})
}

// holdTasksLeft holds that tasks that are handed over are left as they were, and that a plan is new memory, and no two of its lists share any, the room behind them included.
func holdTasksLeft(t *testing.T, was []api.Desc, cores int) {
	t.Helper()
	mark := api.Desc{Period: 77}
	l := roomy(was, mark)
	for i, d := range was {
		l[i] = roomyTask(d)
	}
	want, why := planByWords(was, cores)
	for range 2 {
		p, e := Admit(l, cores)
		if e != why || !alike(p, want) {
			t.Fatal(was, cores, p, int(e))
		}
		for i := range p.Cores {
			whole := p.Cores[i][:cap(p.Cores[i])]
			for k := range whole {
				whole[k] = 77
			}
			for k := i + 1; k < len(p.Cores); k++ {
				if !slices.Equal(p.Cores[k], want.Cores[k]) {
					t.Fatal("two lists share memory", was, i, k)
				}
			}
		}
		whole := p.Shapes[:cap(p.Shapes)]
		for i := range whole {
			whole[i] = api.Shape{Total: 77}
		}
		for i, d := range was {
			if !isTaskKept(l[i], d) {
				t.Fatal("a task was changed", d, l[i])
			}
		}
		for _, d := range l[:len(l)+3][len(l):] {
			if d.Period != 77 || len(d.Parts) != 0 {
				t.Fatal("the room behind was changed", d)
			}
		}
	}
}

// holdPlanLeft holds that a plan that is handed over is left as it was, and that Light tells new memory.
func holdPlanLeft(t *testing.T, was api.Plan) {
	t.Helper()
	p := api.Plan{Shapes: roomy(was.Shapes, api.Shape{Total: 77}), Cores: roomy(was.Cores, []int{77})}
	for i, own := range was.Cores {
		p.Cores[i] = roomy(own, 77)
	}
	for core := range 9 {
		holdCore(t, p, core)
		if !Same(p, was) {
			t.Fatal(was, p)
		}
		tasks := Light(p, core)
		tasks = tasks[:cap(tasks)]
		for i := range tasks {
			tasks[i] = 77
		}
		holdCore(t, p, core)
	}
	if !alike(p, was) || !isKept(p.Shapes, was.Shapes, api.Shape{Total: 77}) {
		t.Fatal(was, p)
	}
	for i, own := range was.Cores {
		if !isKept(p.Cores[i], own, 77) {
			t.Fatal(was, p)
		}
	}
	for _, own := range p.Cores[:len(p.Cores)+3][len(p.Cores):] {
		if !slices.Equal(own, []int{77}) {
			t.Fatal(was, own)
		}
	}
}

// P17.1, P17.2, P17.3: what is handed over is left as it was, whether there is room, or not, and whether it may be or not; what is told is new.
func TestLeftAlone(t *testing.T) {
	for _, l := range [][]api.Desc{nil, example(), lights(8, 4, 3, 1), lights(8, 5, 4, 3, 2, 1), row(light(4, 3), heavy(2), light(4, 3), heavy(2), light(4, 3)), heavies(4, 4), heavies(4, 5), slices.Repeat(lights(8, 1), 9)} {
		for _, cores := range []int{0, 1, 3, 7, 8} {
			holdTasksLeft(t, l, cores)
		}
	}
	for _, x := range append(wrongTasks(), greedyTasks()...) {
		holdTasksLeft(t, row(light(8, 4), x.d, heavy(2)), 8)
	}
	holdPlanLeft(t, api.Plan{})
	holdPlanLeft(t, sound())
	c := chance(1)
	for range 200 {
		l, cores := c.tasks(), 1+c.next(8)
		holdTasksLeft(t, l, cores)
		p, _ := Admit(l, cores)
		holdPlanLeft(t, p)
		holdPlanLeft(t, c.spoil(p))
	}
}
