package desc

import (
	"math"
	"slices"
	"testing"

	"trefoil/api"
)

// edges is an edge from the first to the second number, from the third to the fourth, and so on.
func edges(ends ...int) []api.Edge {
	var l []api.Edge
	for i := 0; i+1 < len(ends); i += 2 {
		l = append(l, api.Edge{From: ends[i], To: ends[i+1]})
	}
	return l
}

// futures is a future of three numbers each: Maker, User, At.
func futures(n ...int) []api.Future {
	var l []api.Future
	for i := 0; i+2 < len(n); i += 3 {
		l = append(l, api.Future{Maker: n[i], User: n[i+1], At: n[i+2]})
	}
	return l
}

// sums are so many parts, each of a work.
func sums(count, work int) []api.Part {
	l := make([]api.Part, count)
	for i := range l {
		l[i] = api.Part{Op: api.OpSum, Work: work}
	}
	return l
}

// of is a task of a few parts, and all else that a part of the test gives it.
func of(parts int, change func(d *api.Desc)) api.Desc {
	d := api.Desc{Period: 8, Deadline: 8, Parts: sums(parts, 9)}
	if change != nil {
		change(&d)
	}
	return d
}

// example is the chapter's: the third of three parts takes 0's value, then, at 3 of its 5, 1's.
func example() api.Desc {
	d := of(3, nil)
	d.Parts[2].Work = 5
	d.Edges, d.Futures = edges(0, 2), futures(1, 2, 3)
	return d
}

// rich is a task in which there is each thing, twice or more.
func rich() api.Desc {
	return api.Desc{
		Period: 64, Deadline: 40,
		Parts: []api.Part{
			{Op: api.OpInput, Arg: 3, Work: 1}, {Op: api.OpConst, Arg: 70, Work: 4}, {Op: api.OpMix, Arg: 2, Work: 20}, {Op: api.OpProd, Arg: 9, Work: 30}, {Op: api.OpMax, Arg: 5, Work: 8},
		},
		Edges:    edges(1, 2, 0, 2, 2, 3),
		Futures:  futures(0, 2, 9, 1, 3, 5, 1, 2, 4, 2, 3, 17),
		Barriers: []api.Barrier{{In: []int{0, 2}, Out: []int{3, 4}}, {In: []int{1}, Out: []int{0, 4}}},
	}
}

// full is a task of as much of each thing as there may be, and of the greatest numbers.
func full() api.Desc {
	d := api.Desc{Period: api.MaxPeriod, Deadline: api.MaxPeriod, Parts: sums(api.MaxParts, api.MaxPartWork)}
	for i := range d.Parts {
		d.Parts[i].Arg = api.MaxArg
	}
	for a := 0; len(d.Edges) < api.MaxJoins; a++ {
		for b := a + 1; b < api.MaxParts && len(d.Edges) < api.MaxJoins; b++ {
			d.Edges = append(d.Edges, api.Edge{From: a, To: b})
		}
	}
	for i := range api.MaxFutures {
		d.Futures = append(d.Futures, api.Future{Maker: i % 15, User: 15, At: 99 - 6*i})
	}
	d.Futures[15].At = 1
	for i := range api.MaxBarriers {
		d.Barriers = append(d.Barriers, api.Barrier{In: []int{i}, Out: []int{i + 4, 14, 15}})
	}
	return d
}

// copied is a task that shares nothing with another one.
func copied(d api.Desc) api.Desc {
	d.Parts, d.Edges, d.Futures, d.Barriers = slices.Clone(d.Parts), slices.Clone(d.Edges), slices.Clone(d.Futures), slices.Clone(d.Barriers)
	for i, b := range d.Barriers {
		d.Barriers[i] = api.Barrier{In: slices.Clone(b.In), Out: slices.Clone(b.Out)}
	}
	return d
}

// numbers hands out, one by one, each number of a task: by a way to change it by so much.
func numbers(d *api.Desc) []func(by int) {
	var l []func(by int)
	add := func(numbers ...*int) {
		for _, n := range numbers {
			l = append(l, func(by int) { *n += by })
		}
	}
	add(&d.Period, &d.Deadline)
	for i := range d.Parts {
		l = append(l, func(by int) { d.Parts[i].Op += api.Op(by) })
		add(&d.Parts[i].Arg, &d.Parts[i].Work)
	}
	for i := range d.Edges {
		add(&d.Edges[i].From, &d.Edges[i].To)
	}
	for i := range d.Futures {
		add(&d.Futures[i].Maker, &d.Futures[i].User, &d.Futures[i].At)
	}
	for i, b := range d.Barriers {
		for j := range b.In {
			add(&b.In[j])
		}
		for j := range b.Out {
			add(&d.Barriers[i].Out[j])
		}
	}
	return l
}

// far are numbers far from all that may be, and such as look small when they are cut to 32 bits.
var far = []int{math.MinInt, -1 << 32, 1 << 32, 1<<32 + 1, math.MaxInt}

// tellsNothing is whether Touches and Feeds tell nothing, of parts and of what is none.
func tellsNothing(d api.Desc) bool {
	for user := -2; user <= len(d.Parts)+1; user++ {
		if len(Touches(d, user)) != 0 || len(Feeds(d, user)) != 0 {
			return false
		}
	}
	return true
}

// P5.1: Check, of ordinary tasks.
func TestCheckRight(t *testing.T) {
	for i, d := range []api.Desc{
		example(),
		rich(),
		full(),
		{Period: 1, Deadline: 1, Parts: sums(1, 1)},
		{Period: 1, Deadline: 1, Parts: sums(1, 1), Edges: []api.Edge{}, Futures: []api.Future{}, Barriers: []api.Barrier{}},
		// ways that lead round are not asked for here: by edges, by a future, by a barrier
		of(2, func(d *api.Desc) { d.Edges = edges(0, 1, 1, 0) }),
		of(2, func(d *api.Desc) { d.Futures = futures(0, 1, 1, 1, 0, 1) }),
		of(2, func(d *api.Desc) {
			d.Edges, d.Barriers = edges(0, 1), []api.Barrier{{In: []int{1}, Out: []int{0}}}
		}),
		// one maker that is touched again, at another At, and at one At by two users
		of(3, func(d *api.Desc) { d.Futures = futures(0, 1, 2, 0, 1, 1, 0, 2, 1) }),
		// an edge beside a future of the same two, and beside its turn
		of(2, func(d *api.Desc) { d.Edges, d.Futures = edges(0, 1, 1, 0), futures(0, 1, 1) }),
		// two barriers alike
		of(3, func(d *api.Desc) {
			d.Barriers = []api.Barrier{{In: []int{0}, Out: []int{1, 2}}, {In: []int{0}, Out: []int{1, 2}}}
		}),
	} {
		if e := Check(d); e != api.OK {
			t.Error(i, e)
		}
	}
}

// P5.1: Check, at the edges of how many there may be: one too many of each thing, and none of parts.
func TestCheckMany(t *testing.T) {
	d := full()
	if len(d.Parts) != 16 || len(d.Edges) != 48 || len(d.Futures) != 16 || len(d.Barriers) != 4 || Check(d) != api.OK {
		t.Fatal("as many as there may be")
	}
	for i, d := range []api.Desc{
		{},
		of(0, nil),
		of(17, nil),
		of(1000, nil),
		of(0, func(d *api.Desc) { d.Parts = []api.Part{} }),
		of(16, func(d *api.Desc) { d.Edges = append(full().Edges, api.Edge{From: 15, To: 0}) }),
		of(16, func(d *api.Desc) { d.Edges = make([]api.Edge, 1000) }),
		of(16, func(d *api.Desc) { d.Futures = append(futures(1, 0, 1), full().Futures...) }),
		of(16, func(d *api.Desc) { d.Futures = make([]api.Future, 1000) }),
		of(16, func(d *api.Desc) { d.Barriers = append(full().Barriers, full().Barriers[0]) }),
		of(16, func(d *api.Desc) { d.Barriers = make([]api.Barrier, 1000) }),
	} {
		if e := Check(d); e != api.ErrDescMany || !tellsNothing(d) {
			t.Error(i, e)
		}
	}
}

// P5.1: Check, of each period and each deadline about those that may be.
func TestCheckTime(t *testing.T) {
	isPeriod := map[int]bool{1: true, 2: true, 4: true, 8: true, 16: true, 32: true, 64: true, 128: true, 256: true, 512: true, 1024: true, 2048: true, 4096: true}
	for period := -3; period <= 8200; period++ {
		for _, deadline := range []int{math.MinInt, -1, 0, 1, period / 2, period - 1, period, period + 1, math.MaxInt} {
			want := api.ErrDescTime
			if isPeriod[period] && deadline >= 1 && deadline <= period {
				want = api.OK
			}
			d := of(2, func(d *api.Desc) { d.Period, d.Deadline = period, deadline })
			if e := Check(d); e != want {
				t.Fatal(period, deadline, e)
			}
		}
	}
	for _, period := range append(far, 1<<40, 1<<41, 1<<62) {
		if e := Check(of(2, func(d *api.Desc) { d.Period = period })); e != api.ErrDescTime {
			t.Error(period, e)
		}
	}
}

// P5.1: Check, of each op, arg and work about those that may be, wherever the part stands.
func TestCheckPart(t *testing.T) {
	for at := range 3 {
		try := func(want api.Errno, p api.Part) {
			d := of(3, func(d *api.Desc) { d.Parts[at] = p })
			if e := Check(d); e != want || want != api.OK && !tellsNothing(d) {
				t.Error(at, p, e, want)
			}
		}
		for _, op := range []api.Op{api.OpInput, api.OpConst, api.OpSum, api.OpProd, api.OpMax, api.OpMix} {
			try(api.OK, api.Part{Op: op, Work: 1})
		}
		for _, op := range append(far, -1, 6, 7) {
			try(api.ErrDescPart, api.Part{Op: api.Op(op), Work: 1})
		}
		for _, arg := range []int{0, 1, 1<<31 - 2, api.MaxArg} {
			try(api.OK, api.Part{Arg: arg, Work: 1})
		}
		for _, arg := range append(far, -1, 1<<31) {
			try(api.ErrDescPart, api.Part{Arg: arg, Work: 1})
		}
		for _, work := range []int{1, 2, 99, api.MaxPartWork} {
			try(api.OK, api.Part{Work: work})
		}
		for _, work := range append(far, -1, 0, 101) {
			try(api.ErrDescPart, api.Part{Work: work})
		}
	}
}

// P5.1: Check, of edges from and to what is no part, from a part to itself, and there twice.
func TestCheckEdge(t *testing.T) {
	tries := [][]api.Edge{
		edges(0, 0), edges(2, 2), edges(0, 1, 1, 1),
		edges(0, 1, 0, 1), edges(0, 1, 1, 2, 0, 1), edges(1, 2, 0, 1, 2, 0, 0, 1),
	}
	for _, n := range append(far, -1, 3, 16) {
		tries = append(tries, edges(n, 1), edges(1, n), edges(n, n), edges(0, 1, 2, n), edges(0, 1, n, 2))
	}
	for i, l := range tries {
		d := of(3, func(d *api.Desc) { d.Edges = l })
		if e := Check(d); e != api.ErrDescEdge || !tellsNothing(d) {
			t.Error(i, l, e)
		}
	}
	for i, l := range [][]api.Edge{nil, edges(0, 2), edges(2, 0), edges(0, 1, 1, 0), edges(0, 1, 0, 2, 1, 2, 2, 1, 2, 0, 1, 0)} {
		if e := Check(of(3, func(d *api.Desc) { d.Edges = l })); e != api.OK {
			t.Error(i, l, e)
		}
	}
}

// P5.1: Check, of futures whose Maker or User is no part, or is the other, At about 0 and the User's Work, and two of one User at one At.
func TestCheckFuture(t *testing.T) {
	tries := [][]api.Future{
		futures(1, 1, 1), futures(0, 1, 1, 2, 2, 1),
		futures(0, 1, 0), futures(0, 1, -1), futures(0, 1, 9), futures(0, 1, 10), futures(0, 1, 1, 0, 2, 9),
		futures(0, 1, 3, 0, 1, 3), futures(0, 1, 3, 2, 1, 3), futures(0, 1, 3, 0, 2, 3, 1, 2, 4, 2, 1, 3),
	}
	for _, n := range append(far, -1, 3, 16) {
		tries = append(tries, futures(n, 1, 1), futures(1, n, 1), futures(n, n, 1), futures(0, 1, 1, n, 2, 1))
	}
	for _, n := range far {
		tries = append(tries, futures(0, 1, n))
	}
	for i, l := range tries {
		d := of(3, func(d *api.Desc) { d.Futures = l })
		if e := Check(d); e != api.ErrDescFuture || !tellsNothing(d) {
			t.Error(i, l, e)
		}
	}
	for work := 1; work <= api.MaxPartWork; work++ {
		for at := -1; at <= 101; at++ {
			want := api.ErrDescFuture
			if at >= 1 && at <= work-1 {
				want = api.OK
			}
			d := of(2, func(d *api.Desc) { d.Parts[1].Work, d.Futures = work, futures(0, 1, at) })
			if e := Check(d); e != want {
				t.Fatal(work, at, e)
			}
		}
	}
	// It is the User's Work that counts, not the Maker's.
	if e := Check(of(2, func(d *api.Desc) { d.Parts[0].Work, d.Futures = 1, futures(0, 1, 8) })); e != api.OK {
		t.Error("a maker of work 1", e)
	}
	if e := Check(of(2, func(d *api.Desc) { d.Parts[1].Work, d.Futures = 1, futures(0, 1, 1) })); e != api.ErrDescFuture {
		t.Error("a user of work 1", e)
	}
}

// P5.1: Check, of barriers whose In or Out is empty, doesn't rise, names what is no part, or shares a part with the other.
func TestCheckBarrier(t *testing.T) {
	ok := api.Barrier{In: []int{0, 1}, Out: []int{2, 3}}
	wrong := [][]int{nil, {}, {1, 0}, {0, 0}, {0, 2, 1}, {0, 1, 1}, {2, 3, 0}}
	for _, n := range append(far, -1, 4, 16) {
		wrong = append(wrong, []int{n}, []int{0, n}, []int{n, 0})
	}
	tries := []api.Barrier{{}}
	for _, side := range wrong {
		tries = append(tries, api.Barrier{In: side, Out: []int{3}}, api.Barrier{In: []int{3}, Out: side}, api.Barrier{In: side, Out: side})
	}
	for _, x := range [][2][]int{{{0}, {0}}, {{0, 1}, {1, 2}}, {{0, 3}, {1, 2, 3}}, {{2}, {0, 1, 2, 3}}, {{0, 1, 2, 3}, {1}}} {
		tries = append(tries, api.Barrier{In: x[0], Out: x[1]}, api.Barrier{In: x[1], Out: x[0]})
	}
	for i, b := range tries {
		for j, l := range [][]api.Barrier{{b}, {ok, b}, {b, ok}, {ok, ok, ok, b}} {
			d := of(4, func(d *api.Desc) { d.Barriers = l })
			if e := Check(d); e != api.ErrDescBarrier || !tellsNothing(d) {
				t.Error(i, j, b, e)
			}
		}
	}
	all := []int{0, 1, 2, 3, 4, 5, 6, 7, 8, 9, 10, 11, 12, 13, 14, 15}
	for cut := 1; cut < 16; cut++ {
		for i, b := range []api.Barrier{{In: all[:cut], Out: all[cut:]}, {In: all[cut:], Out: all[:cut]}, {In: all[cut : cut+1], Out: all[cut-1 : cut]}} {
			if e := Check(of(16, func(d *api.Desc) { d.Barriers = []api.Barrier{b} })); e != api.OK {
				t.Error(cut, i, e)
			}
		}
	}
}

// P5.1: of several faults at once the chapter's first is told.
func TestCheckFirst(t *testing.T) {
	type fault struct {
		e     api.Errno
		spoil func(d *api.Desc)
	}
	faults := []fault{
		{api.ErrDescMany, func(d *api.Desc) { d.Barriers = append(d.Barriers, make([]api.Barrier, 5)...) }},
		{api.ErrDescMany, func(d *api.Desc) { d.Edges = append(d.Edges, make([]api.Edge, 49)...) }},
		{api.ErrDescTime, func(d *api.Desc) { d.Deadline = 0 }},
		{api.ErrDescTime, func(d *api.Desc) { d.Period = 12 }},
		{api.ErrDescPart, func(d *api.Desc) { d.Parts[2].Work = 0 }},
		{api.ErrDescPart, func(d *api.Desc) { d.Parts[4].Op = 6 }},
		{api.ErrDescEdge, func(d *api.Desc) { d.Edges[0].To = 5 }},
		{api.ErrDescEdge, func(d *api.Desc) { d.Edges[2] = d.Edges[1] }},
		{api.ErrDescFuture, func(d *api.Desc) { d.Futures[3].User = 2 }},
		{api.ErrDescFuture, func(d *api.Desc) { d.Futures[1].At = 0 }},
		{api.ErrDescBarrier, func(d *api.Desc) { d.Barriers[0].In = nil }},
		{api.ErrDescBarrier, func(d *api.Desc) { d.Barriers[1].Out[0] = 1 }},
	}
	for i, first := range faults {
		for j, other := range faults {
			d := rich()
			first.spoil(&d)
			other.spoil(&d)
			if e := Check(d); e != min(first.e, other.e) || !tellsNothing(d) {
				t.Error(i, j, e)
			}
		}
	}
	d := api.Desc{Period: 3, Deadline: 9, Edges: edges(0, 0), Futures: futures(0, 0, 0), Barriers: make([]api.Barrier, 1)}
	if e := Check(d); e != api.ErrDescMany {
		t.Error("no part, and all else wrong", e)
	}
}

// P5.1: Same, of a task and itself, and of tasks that differ in one number alone, at each place.
func TestSame(t *testing.T) {
	for i, d := range []api.Desc{{}, example(), rich(), full(), of(17, nil), of(2, func(d *api.Desc) { d.Edges = edges(9, 9, 9, 9) })} {
		if !Same(d, d) || !Same(d, copied(d)) {
			t.Error(i, "itself")
		}
		other := copied(d)
		for j, change := range numbers(&other) {
			for _, by := range []int{1, -1, 1 << 32} {
				change(by)
				if Same(d, other) || Same(other, d) {
					t.Error(i, j, by)
				}
				change(-by)
			}
		}
		if !Same(d, other) {
			t.Error(i, "changed back")
		}
	}
}

// P5.1: Same, of tasks that differ in how many there are of a thing, or in their order, and of nil and empty.
func TestSameRows(t *testing.T) {
	for i, change := range []func(d *api.Desc){
		func(d *api.Desc) { d.Parts = d.Parts[:4] },
		func(d *api.Desc) { d.Parts = append(d.Parts, api.Part{}) },
		func(d *api.Desc) { d.Edges = d.Edges[:2] },
		func(d *api.Desc) { d.Edges = append(d.Edges, api.Edge{}) },
		func(d *api.Desc) { d.Futures = d.Futures[:3] },
		func(d *api.Desc) { d.Futures = append(d.Futures, api.Future{}) },
		func(d *api.Desc) { d.Barriers = d.Barriers[:1] },
		func(d *api.Desc) { d.Barriers = append(d.Barriers, api.Barrier{}) },
		func(d *api.Desc) { d.Barriers[1].In = nil },
		func(d *api.Desc) { d.Barriers[0].In = append(d.Barriers[0].In, 0) },
		func(d *api.Desc) { d.Barriers[0].Out = append(d.Barriers[0].Out, 0) },
		func(d *api.Desc) { d.Barriers[1].Out = d.Barriers[1].Out[:1] },
		func(d *api.Desc) { d.Barriers[0].In, d.Barriers[0].Out = d.Barriers[0].Out, d.Barriers[0].In },
		func(d *api.Desc) { d.Parts[0], d.Parts[1] = d.Parts[1], d.Parts[0] },
		func(d *api.Desc) { d.Edges[0], d.Edges[1] = d.Edges[1], d.Edges[0] },
		func(d *api.Desc) { d.Futures[0], d.Futures[3] = d.Futures[3], d.Futures[0] },
		func(d *api.Desc) { slices.Reverse(d.Barriers) },
	} {
		d := rich()
		change(&d)
		if Same(d, rich()) || Same(rich(), d) {
			t.Error(i)
		}
	}
	empty := api.Desc{Parts: []api.Part{}, Edges: []api.Edge{}, Futures: []api.Future{}, Barriers: []api.Barrier{}}
	if !Same(api.Desc{}, empty) || !Same(empty, api.Desc{}) {
		t.Error("nil and empty")
	}
	a, b := api.Desc{Barriers: []api.Barrier{{}}}, api.Desc{Barriers: []api.Barrier{{In: []int{}, Out: []int{}}}}
	if !Same(a, b) || !Same(b, a) || Same(a, api.Desc{}) {
		t.Error("nil and empty, of a barrier")
	}
}

// P5.2: Touches and Feeds of the chapter's example, of futures of one user that stand otherwise than by their At, and of what is no part.
func TestTouchesFeeds(t *testing.T) {
	twice := of(3, func(d *api.Desc) { d.Edges, d.Futures = edges(2, 1, 0, 1), futures(0, 1, 8, 2, 1, 1, 0, 1, 4) })
	for i, x := range []struct {
		d              api.Desc
		user           int
		touches, feeds []int
	}{
		{example(), 0, nil, nil},
		{example(), 1, nil, nil},
		{example(), 2, []int{0}, []int{0, 1}},
		{example(), 3, nil, nil},
		{rich(), 0, nil, nil},
		{rich(), 1, nil, nil},
		{rich(), 2, []int{2, 0}, []int{1, 0, 1, 0}},
		{rich(), 3, []int{1, 3}, []int{2, 1, 2}},
		{rich(), 4, nil, nil},
		{rich(), 5, nil, nil},
		{rich(), -1, nil, nil},
		{rich(), 1<<32 + 2, nil, nil},
		{rich(), math.MinInt, nil, nil},
		{rich(), math.MaxInt, nil, nil},
		{twice, 0, nil, nil},
		{twice, 1, []int{1, 2, 0}, []int{2, 0, 2, 0, 0}},
		{twice, 2, nil, nil},
		{of(1, nil), 0, nil, nil},
		{full(), 15, []int{15, 14, 13, 12, 11, 10, 9, 8, 7, 6, 5, 4, 3, 2, 1, 0}, []int{0, 1, 2, 0, 14, 13, 12, 11, 10, 9, 8, 7, 6, 5, 4, 3, 2, 1, 0}},
	} {
		if touches, feeds := Touches(x.d, x.user), Feeds(x.d, x.user); !slices.Equal(touches, x.touches) || !slices.Equal(feeds, x.feeds) {
			t.Error(i, touches, feeds)
		}
	}
}

// tasks hands out many tasks that may be, made by a rule that knows no chance: of few parts and of many, of small works and of great ones.
func tasks(give func(d api.Desc)) {
	seed := uint32(1)
	next := func(below int) int {
		seed = seed*1664525 + 1013904223
		return int(seed>>8) % below
	}
	for range 4000 {
		count := 2 + next(api.MaxParts-1)
		d := of(count, nil)
		for i := range d.Parts {
			d.Parts[i].Work = 1 + next(1+next(api.MaxPartWork))
		}
		for range next(api.MaxJoins + 1) {
			e := api.Edge{From: next(count), To: next(count)}
			if e.From != e.To && !slices.Contains(d.Edges, e) {
				d.Edges = append(d.Edges, e)
			}
		}
		for range next(api.MaxFutures + 1) {
			f := api.Future{Maker: next(count), User: next(1 + next(count))}
			if f.At = 1 + next(d.Parts[f.User].Work); f.Maker != f.User && f.At < d.Parts[f.User].Work && placeOf(d.Futures, f.User, f.At) == -1 {
				d.Futures = append(d.Futures, f)
			}
		}
		give(d)
	}
}

// placeOf is the place of a user's future at an At; -1: there is none.
func placeOf(l []api.Future, user, at int) int {
	return slices.IndexFunc(l, func(f api.Future) bool { return f.User == user && f.At == at })
}

// P5.2: Touches and Feeds of many tasks, held against the chapter's own words: at each At, from the least on, the future of that user.
func TestTouchesFeedsByWords(t *testing.T) {
	shuffled := 0
	tasks(func(d api.Desc) {
		if e := Check(d); e != api.OK {
			t.Fatal(d, e)
		}
		for user := -1; user <= len(d.Parts); user++ {
			var touches, feeds []int
			for _, e := range d.Edges {
				if e.To == user {
					feeds = append(feeds, e.From)
				}
			}
			for at := range api.MaxPartWork {
				if place := placeOf(d.Futures, user, at); place != -1 {
					touches, feeds = append(touches, place), append(feeds, d.Futures[place].Maker)
				}
			}
			if !slices.IsSorted(touches) {
				shuffled++
			}
			if got := Touches(d, user); !slices.Equal(got, touches) {
				t.Fatal(d, user, got)
			}
			if got := Feeds(d, user); !slices.Equal(got, feeds) {
				t.Fatal(d, user, got)
			}
		}
	})
	if shuffled < 100 {
		t.Error("too few whose futures stand otherwise than by their At", shuffled)
	}
}

// P5.3: between two touches, ahead of the first one, and behind the last one, there is work.
func TestWorkBetween(t *testing.T) {
	hold := func(d api.Desc) {
		for user, p := range d.Parts {
			done := 0
			for _, place := range Touches(d, user) {
				f := d.Futures[place]
				if f.User != user || f.At <= done {
					t.Fatal(d, user, f)
				}
				done = f.At
			}
			if p.Work <= done {
				t.Fatal(d, user)
			}
		}
	}
	tasks(hold)
	for _, d := range []api.Desc{example(), rich(), full()} {
		hold(d)
	}
}

// P1: nothing that is handed in is changed, the spare room of its rows included, and what is handed out is new memory.
func TestKept(t *testing.T) {
	d := rich()
	d.Parts, d.Edges, d.Futures, d.Barriers = append(d.Parts, api.Part{Work: 7}), append(d.Edges, api.Edge{From: 7}), append(d.Futures, api.Future{At: 7}), append(d.Barriers, api.Barrier{In: []int{7}})
	d.Barriers[0].In = append(d.Barriers[0].In, 7)
	before := copied(d)
	d.Parts, d.Edges, d.Futures, d.Barriers = d.Parts[:5], d.Edges[:3], d.Futures[:4], d.Barriers[:2]
	d.Barriers[0].In = d.Barriers[0].In[:2]
	for user := range d.Parts {
		for _, call := range []func(api.Desc, int) []int{Touches, Feeds} {
			first := call(d, user)
			kept := slices.Clone(first)
			first = first[:cap(first)]
			for i := range first {
				first[i] = -99
			}
			if !slices.Equal(call(d, user), kept) {
				t.Error("an answer is not new memory", user)
			}
		}
	}
	if Check(d) != api.OK || !Same(d, rich()) {
		t.Error("something else is told")
	}
	d.Parts, d.Edges, d.Futures, d.Barriers = d.Parts[:6], d.Edges[:4], d.Futures[:5], d.Barriers[:3]
	d.Barriers[0].In = d.Barriers[0].In[:3]
	if !Same(d, before) {
		t.Error("what is handed in is changed")
	}
}
