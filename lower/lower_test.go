package lower

import (
	"math"
	"slices"
	"testing"

	"trefoil/api"
	"trefoil/dag"
	"trefoil/desc"
)

// edges is an edge from the first to the second number, from the third to the fourth, and so on.
func edges(ends ...int) []api.Edge {
	var l []api.Edge
	for i := 0; i+1 < len(ends); i += 2 {
		l = append(l, api.Edge{From: ends[i], To: ends[i+1]})
	}
	return l
}

// futures is a future of three numbers each: Maker, User, At.
func futures(n ...int) []api.Future {
	var l []api.Future
	for i := 0; i+2 < len(n); i += 3 {
		l = append(l, api.Future{Maker: n[i], User: n[i+1], At: n[i+2]})
	}
	return l
}

// pieces is a piece of two numbers each: Part, Step.
func pieces(n ...int) []api.Piece {
	var l []api.Piece
	for i := 0; i+1 < len(n); i += 2 {
		l = append(l, api.Piece{Part: n[i], Step: n[i+1]})
	}
	return l
}

// of is a task of parts by their works, and all else that a part of the test gives it.
func of(works []int, change func(d *api.Desc)) api.Desc {
	d := api.Desc{Period: 64, Deadline: 64}
	for i, work := range works {
		d.Parts = append(d.Parts, api.Part{Op: api.Op(i % 6), Arg: i, Work: work})
	}
	if change != nil {
		change(&d)
	}
	return d
}

// alike is so many numbers of one worth.
func alike(count, n int) []int { return slices.Repeat([]int{n}, count) }

// example is the chapter's: a part of work 5, touched at 3.
func example() api.Desc {
	return of([]int{2, 5}, func(d *api.Desc) { d.Futures = futures(0, 1, 3) })
}

// rich is a task in which there is each thing, twice or more, its futures standing otherwise than by their users and At.
func rich() api.Desc {
	return of([]int{1, 4, 20, 30, 8}, func(d *api.Desc) {
		d.Edges = edges(2, 3, 0, 2, 1, 4)
		d.Futures = futures(0, 3, 17, 1, 2, 9, 2, 3, 5, 0, 2, 4)
		d.Barriers = []api.Barrier{{In: []int{0, 1}, Out: []int{3, 4}}, {In: []int{2}, Out: []int{4}}}
	})
}

// richLow is what the chapter's words make of rich: 0 is part 0, 1 part 1; 2, 3, 4 are part 2; 5, 6, 7 part 3; 8 is part 4; 9, 10 are the barriers.
func richLow() api.Low {
	return api.Low{
		Dag: api.Dag{
			Work: []int{1, 4, 4, 5, 11, 5, 12, 13, 8, 1, 1},
			Edges: edges(
				2, 3, 3, 4, 5, 6, 6, 7,
				4, 5, 0, 2, 1, 8,
				0, 7, 1, 4, 4, 6, 0, 3,
				0, 9, 1, 9, 9, 5, 9, 8, 4, 10, 10, 8,
			),
		},
		Pieces: pieces(0, 0, 1, 0, 2, 0, 2, 1, 2, 2, 3, 0, 3, 1, 3, 2, 4, 0, -1, 0, -1, 1),
	}
}

// full is a task of as much of each thing as there may be, its futures of one user or of several; no way leads round, since all rises.
func full(users ...int) api.Desc {
	return of(alike(api.MaxParts, api.MaxPartWork), func(d *api.Desc) {
		for a := 0; len(d.Edges) < api.MaxJoins; a++ {
			for b := api.MaxParts - 1; b > a && len(d.Edges) < api.MaxJoins; b-- {
				d.Edges = append(d.Edges, api.Edge{From: a, To: b})
			}
		}
		for i := range api.MaxFutures {
			user := users[i%len(users)]
			d.Futures = append(d.Futures, api.Future{Maker: i % user, User: user, At: 99 - i*98/15})
		}
		all := []int{0, 1, 2, 3, 4, 5, 6, 7, 8, 9, 10, 11, 12, 13, 14, 15}
		for i := range api.MaxBarriers {
			d.Barriers = append(d.Barriers, api.Barrier{In: slices.Clone(all[:5*i+1]), Out: slices.Clone(all[5*i+1:])})
		}
		d.Barriers[3] = api.Barrier{In: all[:15:15], Out: []int{15}}
	})
}

// copied is a task that shares nothing with another one.
func copied(d api.Desc) api.Desc {
	d.Parts, d.Edges, d.Futures, d.Barriers = slices.Clone(d.Parts), slices.Clone(d.Edges), slices.Clone(d.Futures), slices.Clone(d.Barriers)
	for i, b := range d.Barriers {
		d.Barriers[i] = api.Barrier{In: slices.Clone(b.In), Out: slices.Clone(b.Out)}
	}
	return d
}

// copiedLow is a lowered task that shares nothing with another one.
func copiedLow(l api.Low) api.Low {
	l.Dag = api.Dag{Work: slices.Clone(l.Dag.Work), Edges: slices.Clone(l.Dag.Edges)}
	l.Pieces = slices.Clone(l.Pieces)
	return l
}

// equal is whether two lowered tasks have the same in each place, not asked of the program.
func equal(a, b api.Low) bool {
	return slices.Equal(a.Dag.Work, b.Dag.Work) && slices.Equal(a.Dag.Edges, b.Dag.Edges) && slices.Equal(a.Pieces, b.Pieces)
}

// isNothing is whether a lowered task is the zero value.
func isNothing(l api.Low) bool { return equal(l, api.Low{}) }

// lowered is a task lowered without an error.
func lowered(t *testing.T, d api.Desc) api.Low {
	t.Helper()
	l, e := Lower(d)
	if e != api.OK {
		t.Fatal(d, e)
	}
	return l
}

// far are numbers far from all that may be, and such as look small when they are cut to 32 bits.
var far = []int{math.MinInt, -1 << 32, 1 << 32, 1<<32 + 1, math.MaxInt}

// chance hands out numbers below a bound, always the same ones.
type chance uint64

func (c *chance) next(below int) int {
	*c = *c*6364136223846793005 + 1442695040888963407
	return int(uint64(*c)>>33) % below
}

// row is so many numbers in an order by chance.
func (c *chance) row(count int) []int {
	l := make([]int, count)
	for i := range l {
		j := c.next(i + 1)
		l[i], l[j] = l[j], i
	}
	return l
}

// some is one or more of a row, rising.
func (c *chance) some(row []int) []int {
	l := slices.Clone(row[:1])
	for _, n := range row[1:] {
		if c.next(3) == 0 {
			l = append(l, n)
		}
	}
	slices.Sort(l)
	return l
}

// task is a task of parts by their works, with up to so many of each other thing as a bound is; if it is tame all that waits stands, in one row of the parts, behind what it waits for.
func (c *chance) task(works []int, most int, tame bool) api.Desc {
	d, count := of(works, nil), len(works)
	if count < 2 {
		return d
	}
	row := c.row(count)
	shuffle := func() {
		if !tame {
			row = c.row(count)
		}
	}
	two := func() (int, int) {
		shuffle()
		b := 1 + c.next(count-1)
		return row[c.next(b)], row[b]
	}
	for range c.next(1 + min(most, api.MaxJoins)) {
		a, b := two()
		if e := (api.Edge{From: a, To: b}); !slices.Contains(d.Edges, e) {
			d.Edges = append(d.Edges, e)
		}
	}
	for range c.next(1 + min(most, api.MaxFutures)) {
		maker, user := two()
		if at := 1 + c.next(works[user]); at < works[user] && !isTouched(d, user, at) {
			d.Futures = append(d.Futures, api.Future{Maker: maker, User: user, At: at})
		}
	}
	for range c.next(1 + min(most, api.MaxBarriers)) {
		shuffle()
		cut := 1 + c.next(count-1)
		d.Barriers = append(d.Barriers, api.Barrier{In: c.some(row[:cut]), Out: c.some(row[cut:])})
	}
	return d
}

// tasks hands out so many tasks by chance, of which every second is tame: their parts, at most so many, have works up to a bound.
func tasks(many, parts, work int, give func(d api.Desc, tame bool)) {
	c := chance(7)
	for i := range many {
		works := make([]int, 1+c.next(parts))
		for j := range works {
			works[j] = 1 + c.next(work)
		}
		tame := i%2 == 0
		give(c.task(works, 1+c.next(api.MaxJoins), tame), tame)
	}
}

// isTouched is whether a part has a future at an At.
func isTouched(d api.Desc, user, at int) bool {
	return slices.ContainsFunc(d.Futures, func(f api.Future) bool { return f.User == user && f.At == at })
}

// touched is how often a part has been touched when so much of it is done.
func touched(d api.Desc, user, upTo int) int {
	times := 0
	for at := range upTo + 1 {
		if isTouched(d, user, at) {
			times++
		}
	}
	return times
}

// nodesByWords is the nodes of a lowered task by the chapter's words: the parts' steps, then the barriers.
func nodesByWords(d api.Desc) api.Low {
	var l api.Low
	node := func(part, step, work int) {
		l.Pieces, l.Dag.Work = append(l.Pieces, api.Piece{Part: part, Step: step}), append(l.Dag.Work, work)
	}
	for part, p := range d.Parts {
		step, work := 0, 0
		for done := 1; done <= p.Work; done++ {
			work++
			if done == p.Work || isTouched(d, part, done) {
				node(part, step, work)
				step, work = step+1, 0
			}
		}
	}
	for place := range d.Barriers {
		node(-1, place, 1)
	}
	return l
}

// byWords is a lowered task by the chapter's words, whether a way leads round or not: the ends of each edge are looked for among the nodes.
func byWords(d api.Desc) api.Low {
	l := nodesByWords(d)
	edge := func(from, to api.Piece) {
		l.Dag.Edges = append(l.Dag.Edges, api.Edge{From: slices.Index(l.Pieces, from), To: slices.Index(l.Pieces, to)})
	}
	step := func(part, upTo int) api.Piece { return api.Piece{Part: part, Step: touched(d, part, upTo)} }
	last := func(part int) api.Piece { return step(part, d.Parts[part].Work) }
	for part, p := range d.Parts {
		for s := 1; s <= touched(d, part, p.Work); s++ {
			edge(api.Piece{Part: part, Step: s - 1}, api.Piece{Part: part, Step: s})
		}
	}
	for _, e := range d.Edges {
		edge(last(e.From), api.Piece{Part: e.To})
	}
	for _, f := range d.Futures {
		edge(last(f.Maker), step(f.User, f.At))
	}
	for place, b := range d.Barriers {
		for _, part := range b.In {
			edge(last(part), api.Piece{Part: -1, Step: place})
		}
		for _, part := range b.Out {
			edge(api.Piece{Part: -1, Step: place}, api.Piece{Part: part})
		}
	}
	return l
}

// behind is for each of so many things, 64 at most, those to which a way leads, number n as bit n.
func behind(count int, l []api.Edge) []uint64 {
	to := make([]uint64, count)
	for _, e := range l {
		to[e.From] |= 1 << e.To
	}
	for via := range count {
		for from := range count {
			if to[from]>>via&1 == 1 {
				to[from] |= to[via]
			}
		}
	}
	return to
}

// goesRound is whether a way leads from a thing to itself.
func goesRound(to []uint64) bool {
	for n := range to {
		if to[n]>>n&1 == 1 {
			return true
		}
	}
	return false
}

// units is, with no regard to steps, what waits for what in a task, each unit of a part's work by itself: where each part's units begin, and to which units ways lead.
func units(d api.Desc) (begins []int, to []uint64) {
	count := 0
	var l []api.Edge
	for _, p := range d.Parts {
		begins = append(begins, count)
		for n := 1; n < p.Work; n++ {
			l = append(l, api.Edge{From: count + n - 1, To: count + n})
		}
		count += p.Work
	}
	last := func(part int) int { return begins[part] + d.Parts[part].Work - 1 }
	for _, e := range d.Edges {
		l = append(l, api.Edge{From: last(e.From), To: begins[e.To]})
	}
	for _, f := range d.Futures {
		l = append(l, api.Edge{From: last(f.Maker), To: begins[f.User] + f.At})
	}
	for _, b := range d.Barriers {
		for _, in := range b.In {
			for _, out := range b.Out {
				l = append(l, api.Edge{From: last(in), To: begins[out]})
			}
		}
	}
	return begins, behind(count, l)
}

// holdWords holds Lower of a task that may be against the chapter's words; whether a way leads round.
func holdWords(t *testing.T, d api.Desc) bool {
	t.Helper()
	want, wantE := byWords(d), api.OK
	isRound := goesRound(behind(len(want.Pieces), want.Dag.Edges))
	if isRound {
		want, wantE = api.Low{}, api.ErrLowRound
	}
	if l, e := Lower(d); e != wantE || !equal(l, want) {
		t.Fatalf("%v: %v %d, want %v %d", d, l, e, want, wantE)
	}
	return isRound
}

// P7.1: Lower, of the chapter's example.
func TestExample(t *testing.T) {
	l := lowered(t, example())
	want := api.Low{Dag: api.Dag{Work: []int{2, 3, 2}, Edges: edges(1, 2, 0, 2)}, Pieces: pieces(0, 0, 1, 0, 1, 1)}
	if !equal(l, want) {
		t.Error(l)
	}
}

// P7.1: Lower, node by node and edge by edge, of tasks with each thing alone, and with all of them.
func TestLower(t *testing.T) {
	for i, x := range []struct {
		d      api.Desc
		work   []int
		pieces []api.Piece
		edges  []api.Edge
	}{
		{of([]int{1}, nil), []int{1}, pieces(0, 0), nil},
		{of([]int{100}, nil), []int{100}, pieces(0, 0), nil},
		{of([]int{3, 1, 2}, nil), []int{3, 1, 2}, pieces(0, 0, 1, 0, 2, 0), nil},
		// edges stay in the task's order
		{of([]int{3, 1, 2}, func(d *api.Desc) { d.Edges = edges(2, 0, 1, 0, 1, 2) }), []int{3, 1, 2}, pieces(0, 0, 1, 0, 2, 0), edges(2, 0, 1, 0, 1, 2)},
		// a part touched three times, its futures not by their At: the edges stand as the futures do, the steps by their At
		{
			of([]int{10, 2, 3, 4}, func(d *api.Desc) { d.Futures = futures(2, 0, 9, 1, 0, 1, 3, 0, 4) }),
			[]int{1, 3, 5, 1, 2, 3, 4}, pieces(0, 0, 0, 1, 0, 2, 0, 3, 1, 0, 2, 0, 3, 0), edges(0, 1, 1, 2, 2, 3, 5, 3, 4, 1, 6, 2),
		},
		// one maker, touched again and again; an edge of the same two is from the last step to the first
		{
			of([]int{4, 6}, func(d *api.Desc) { d.Edges, d.Futures = edges(0, 1), futures(0, 1, 2, 0, 1, 5) }),
			[]int{4, 2, 3, 1}, pieces(0, 0, 1, 0, 1, 1, 1, 2), edges(1, 2, 2, 3, 0, 1, 0, 2, 0, 3),
		},
		// a maker that is touched itself: its last step is waited for, and an edge from it leads from there
		{
			of([]int{4, 6, 2}, func(d *api.Desc) { d.Edges, d.Futures = edges(1, 0), futures(1, 0, 3, 2, 1, 5) }),
			[]int{3, 1, 5, 1, 2}, pieces(0, 0, 0, 1, 1, 0, 1, 1, 2, 0), edges(0, 1, 2, 3, 3, 0, 3, 1, 4, 3),
		},
		// a barrier of several In and Out, whose parts have several steps, and the same one again
		{
			of([]int{4, 6, 2, 5}, func(d *api.Desc) {
				d.Futures = futures(1, 0, 3, 2, 3, 1)
				d.Barriers = []api.Barrier{{In: []int{1, 2}, Out: []int{0, 3}}, {In: []int{1, 2}, Out: []int{0, 3}}}
			}),
			[]int{3, 1, 6, 2, 1, 4, 1, 1}, pieces(0, 0, 0, 1, 1, 0, 2, 0, 3, 0, 3, 1, -1, 0, -1, 1),
			edges(0, 1, 4, 5, 2, 1, 3, 5, 2, 6, 3, 6, 6, 0, 6, 4, 2, 7, 3, 7, 7, 0, 7, 4),
		},
		{
			of([]int{4, 6, 2, 5}, func(d *api.Desc) {
				d.Futures, d.Barriers = futures(1, 0, 3, 1, 3, 1), []api.Barrier{{In: []int{0, 1, 3}, Out: []int{2}}}
			}),
			[]int{3, 1, 6, 2, 1, 4, 1}, pieces(0, 0, 0, 1, 1, 0, 2, 0, 3, 0, 3, 1, -1, 0), edges(0, 1, 4, 5, 2, 1, 2, 5, 1, 6, 2, 6, 5, 6, 6, 3),
		},
		{rich(), richLow().Dag.Work, richLow().Pieces, richLow().Dag.Edges},
	} {
		want := api.Low{Dag: api.Dag{Work: x.work, Edges: x.edges}, Pieces: x.pieces}
		if l, e := Lower(x.d); e != api.OK || !equal(l, want) {
			t.Errorf("%d: %v %d, want %v", i, l, e, want)
		}
		holdWords(t, x.d)
	}
}

// P7.1: Lower, of a part of each work, alone, touched once at each place, and touched at all places at which it may be.
func TestSteps(t *testing.T) {
	for work := 1; work <= api.MaxPartWork; work++ {
		l := lowered(t, of([]int{work}, nil))
		if !equal(l, api.Low{Dag: api.Dag{Work: []int{work}}, Pieces: pieces(0, 0)}) {
			t.Error(work, l)
		}
		for at := 1; at < work; at++ {
			l := lowered(t, of([]int{work, 1}, func(d *api.Desc) { d.Futures = futures(1, 0, at) }))
			if !equal(l, api.Low{Dag: api.Dag{Work: []int{at, work - at, 1}, Edges: edges(0, 1, 2, 1)}, Pieces: pieces(0, 0, 0, 1, 1, 0)}) {
				t.Fatal(work, at, l)
			}
		}
	}
	d := of([]int{1, 17}, nil)
	for at := 16; at >= 1; at-- {
		d.Futures = append(d.Futures, api.Future{Maker: 0, User: 1, At: at})
	}
	if l := lowered(t, d); !slices.Equal(l.Dag.Work, alike(18, 1)) || l.Pieces[17] != (api.Piece{Part: 1, Step: 16}) || l.Dag.Edges[16] != (api.Edge{From: 0, To: 17}) {
		t.Error("touched at all places", l)
	}
	holdWords(t, d)
}

// P7.1, P7.3: Lower, of as much of each thing as there may be.
func TestFull(t *testing.T) {
	for i, users := range [][]int{{15}, {15, 7, 1, 9}, {1, 2, 3, 4, 5, 6, 7, 8, 9, 10, 11, 12, 13, 14, 15, 3}} {
		d := full(users...)
		if len(d.Parts) != 16 || len(d.Edges) != 48 || len(d.Futures) != 16 || len(d.Barriers) != 4 || desc.Check(d) != api.OK {
			t.Fatal(i, "not as much as there may be", d, desc.Check(d))
		}
		if holdWords(t, d) {
			t.Error(i, "leads round")
		}
		l := lowered(t, d)
		if len(l.Pieces) != 16+16+4 || len(l.Dag.Edges) != 16+48+16+4*16 || dag.Check(l.Dag) != api.OK || dag.Total(l.Dag) != 16*100+4 {
			t.Error(i, len(l.Pieces), len(l.Dag.Edges), dag.Total(l.Dag))
		}
		d.Edges[47] = api.Edge{From: 15, To: 0}
		if l, e := Lower(d); e != api.ErrLowRound || !isNothing(l) {
			t.Error(i, "leads round by its last edge", e)
		}
	}
}

// P7.1: Lower, of many tasks, held against the chapter's words.
func TestByWords(t *testing.T) {
	right, round := 0, 0
	tasks(4000, api.MaxParts, api.MaxPartWork, func(d api.Desc, tame bool) {
		if e := desc.Check(d); e != api.OK {
			t.Fatal(d, e)
		}
		switch isRound := holdWords(t, d); {
		case isRound && tame:
			t.Fatal("a tame one leads round", d)
		case isRound:
			round++
		default:
			right++
		}
	})
	if right < 1000 || round < 1000 {
		t.Error("too few of a kind", right, round)
	}
}

// spoilt is a way to make rich wrong, and its error.
type spoilt struct {
	e     api.Errno
	spoil func(d *api.Desc)
}

// faults are ways to make rich wrong, of each of chapter 5's errors, and of ways that lead round, by rising errors.
func faults() []spoilt {
	return []spoilt{
		{api.ErrDescMany, func(d *api.Desc) { d.Parts = append(d.Parts, alikeParts(12)...) }},
		{api.ErrDescMany, func(d *api.Desc) { d.Edges = append(d.Edges, make([]api.Edge, 46)...) }},
		{api.ErrDescMany, func(d *api.Desc) { d.Futures = append(d.Futures, make([]api.Future, 13)...) }},
		{api.ErrDescMany, func(d *api.Desc) { d.Barriers = append(d.Barriers, make([]api.Barrier, 3)...) }},
		{api.ErrDescTime, func(d *api.Desc) { d.Period = 0 }},
		{api.ErrDescTime, func(d *api.Desc) { d.Period = 65 }},
		{api.ErrDescTime, func(d *api.Desc) { d.Period = 8192 }},
		{api.ErrDescTime, func(d *api.Desc) { d.Deadline = 0 }},
		{api.ErrDescTime, func(d *api.Desc) { d.Deadline = 65 }},
		{api.ErrDescPart, func(d *api.Desc) { d.Parts[4].Op = 6 }},
		{api.ErrDescPart, func(d *api.Desc) { d.Parts[1].Arg = 1 << 31 }},
		{api.ErrDescPart, func(d *api.Desc) { d.Parts[0].Work = 0 }},
		{api.ErrDescPart, func(d *api.Desc) { d.Parts[3].Work = 101 }},
		{api.ErrDescEdge, func(d *api.Desc) { d.Edges[0].To = 5 }},
		{api.ErrDescEdge, func(d *api.Desc) { d.Edges[2].From = -1 }},
		{api.ErrDescEdge, func(d *api.Desc) { d.Edges[1].From = 2 }},
		{api.ErrDescEdge, func(d *api.Desc) { d.Edges[2] = d.Edges[1] }},
		{api.ErrDescFuture, func(d *api.Desc) { d.Futures[2].Maker = 5 }},
		{api.ErrDescFuture, func(d *api.Desc) { d.Futures[2].User = -1 }},
		{api.ErrDescFuture, func(d *api.Desc) { d.Futures[3].Maker = 2 }},
		{api.ErrDescFuture, func(d *api.Desc) { d.Futures[1].At = 0 }},
		{api.ErrDescFuture, func(d *api.Desc) { d.Futures[1].At = 20 }},
		{api.ErrDescFuture, func(d *api.Desc) { d.Futures[1].At = 4 }},
		{api.ErrDescBarrier, func(d *api.Desc) { d.Barriers[0].In = nil }},
		{api.ErrDescBarrier, func(d *api.Desc) { d.Barriers[1].Out = []int{} }},
		{api.ErrDescBarrier, func(d *api.Desc) { d.Barriers[0].In = []int{0, 0} }},
		{api.ErrDescBarrier, func(d *api.Desc) { d.Barriers[0].Out[1] = 5 }},
		{api.ErrDescBarrier, func(d *api.Desc) { d.Barriers[1].Out = []int{2, 4} }},
		{api.ErrLowRound, func(d *api.Desc) { d.Edges = append(d.Edges, api.Edge{From: 4, To: 1}) }},
		{api.ErrLowRound, func(d *api.Desc) { d.Futures = append(d.Futures, api.Future{Maker: 3, User: 2, At: 1}) }},
		{api.ErrLowRound, func(d *api.Desc) { d.Barriers = append(d.Barriers, api.Barrier{In: []int{1, 4}, Out: []int{0}}) }},
	}
}

// alikeParts is so many parts that may be.
func alikeParts(count int) []api.Part {
	return slices.Repeat([]api.Part{{Work: 1}}, count)
}

// P7.1: Lower, of tasks that may not be: each of chapter 5's errors, and ways that lead round, alone, and each with each other one: the first one is told.
func TestLowerWrong(t *testing.T) {
	try := func(want api.Errno, d api.Desc) {
		t.Helper()
		if l, e := Lower(d); e != want || want != api.ErrLowRound && e != desc.Check(d) || !isNothing(l) {
			t.Errorf("%v: %v %d, want %d", d, l, e, want)
		}
	}
	for i, first := range faults() {
		d := rich()
		first.spoil(&d)
		try(first.e, d)
		for _, other := range faults()[i+1:] {
			d := rich()
			first.spoil(&d)
			other.spoil(&d)
			try(first.e, d)
		}
	}
	try(api.ErrDescMany, api.Desc{})
	try(api.ErrDescMany, of(nil, nil))
	try(api.ErrDescMany, api.Desc{Period: 3, Deadline: 9, Edges: edges(0, 0), Futures: futures(0, 0, 0), Barriers: make([]api.Barrier, 1)})
}

// P7.1: Lower, of tasks in which one number alone is far from all that may be.
func TestLowerFar(t *testing.T) {
	for _, n := range far {
		for i, x := range []spoilt{
			{api.ErrDescTime, func(d *api.Desc) { d.Period = n }},
			{api.ErrDescTime, func(d *api.Desc) { d.Deadline = n }},
			{api.ErrDescPart, func(d *api.Desc) { d.Parts[4].Op = api.Op(n) }},
			{api.ErrDescPart, func(d *api.Desc) { d.Parts[4].Arg = n }},
			{api.ErrDescPart, func(d *api.Desc) { d.Parts[4].Work = n }},
			{api.ErrDescEdge, func(d *api.Desc) { d.Edges[0].From = n }},
			{api.ErrDescEdge, func(d *api.Desc) { d.Edges[0].To = n }},
			{api.ErrDescFuture, func(d *api.Desc) { d.Futures[0].Maker = n }},
			{api.ErrDescFuture, func(d *api.Desc) { d.Futures[0].User = n }},
			{api.ErrDescFuture, func(d *api.Desc) { d.Futures[0].At = n }},
			{api.ErrDescBarrier, func(d *api.Desc) { d.Barriers[0].In[0] = n }},
			{api.ErrDescBarrier, func(d *api.Desc) { d.Barriers[0].Out[1] = n }},
		} {
			d := rich()
			x.spoil(&d)
			if l, e := Lower(d); e != x.e || !isNothing(l) {
				t.Error(n, i, l, e)
			}
		}
	}
	many := api.Desc{Period: 64, Deadline: 64, Parts: alikeParts(100000), Edges: make([]api.Edge, 100000), Futures: make([]api.Future, 100000), Barriers: make([]api.Barrier, 100000)}
	if l, e := Lower(many); e != api.ErrDescMany || !isNothing(l) {
		t.Error("many of all", l, e)
	}
}

// tangle is a task, by what waits in it, and whether a way leads round.
type tangle struct {
	isRound  bool
	edges    []api.Edge
	futures  []api.Future
	barriers []api.Barrier
}

// tangles are tasks of parts of work 5 whose ways lead round by each thing, alone and together, and such as almost do.
func tangles() []tangle {
	bar := func(in, out int) api.Barrier { return api.Barrier{In: []int{in}, Out: []int{out}} }
	bars := func(l ...api.Barrier) []api.Barrier { return l }
	return []tangle{
		// by edges
		{true, edges(0, 1, 1, 0), nil, nil},
		{true, edges(0, 1, 1, 2, 2, 3, 3, 0), nil, nil},
		{true, edges(0, 1, 2, 3, 3, 2), nil, nil},
		{false, edges(0, 1, 1, 2, 2, 3, 0, 3), nil, nil},
		// by futures: each last step waits for the other one's, wherever the touches are
		{true, nil, futures(0, 1, 1, 1, 0, 1), nil},
		{true, nil, futures(0, 1, 4, 1, 0, 4), nil},
		{true, nil, futures(0, 1, 1, 1, 0, 4), nil},
		{true, nil, futures(0, 1, 2, 1, 2, 3, 2, 0, 4), nil},
		{false, nil, futures(0, 1, 2, 1, 2, 3, 0, 2, 4), nil},
		{false, nil, futures(0, 1, 1, 0, 1, 2, 0, 1, 4), nil},
		// by barriers
		{true, nil, nil, bars(bar(0, 1), bar(1, 0))},
		{true, nil, nil, bars(api.Barrier{In: []int{0, 2}, Out: []int{1, 3}}, bar(3, 2))},
		{true, nil, nil, bars(bar(0, 1), bar(1, 2), bar(2, 3), bar(3, 0))},
		{false, nil, nil, bars(bar(0, 1), bar(0, 1), bar(1, 2), bar(0, 2))},
		// by an edge and a future
		{true, edges(1, 0), futures(0, 1, 4), nil},
		{true, edges(1, 2, 2, 0), futures(0, 1, 1), nil},
		{false, edges(0, 1), futures(0, 1, 4), nil},
		{false, edges(2, 0, 2, 1), futures(0, 1, 4), nil},
		// by an edge and a barrier
		{true, edges(1, 0), nil, bars(bar(0, 1))},
		{true, edges(3, 0), nil, bars(api.Barrier{In: []int{0, 1}, Out: []int{2, 3}})},
		{false, edges(0, 3, 0, 1, 2, 3), nil, bars(api.Barrier{In: []int{0, 1}, Out: []int{2, 3}})},
		// by a future and a barrier
		{true, nil, futures(0, 1, 4), bars(bar(1, 0))},
		{true, nil, futures(2, 1, 1), bars(api.Barrier{In: []int{0, 1}, Out: []int{2, 3}})},
		{false, nil, futures(0, 1, 4), bars(bar(0, 1))},
		{false, nil, futures(1, 2, 4, 0, 3, 2, 0, 1, 1), bars(api.Barrier{In: []int{0, 1}, Out: []int{2, 3}})},
		// by all three
		{true, edges(0, 1), futures(2, 0, 3), bars(bar(1, 2))},
		{true, edges(0, 1, 3, 2), futures(1, 3, 3), bars(bar(2, 0))},
		{false, edges(0, 1), futures(0, 2, 3), bars(bar(1, 2))},
	}
}

// P7.1: Lower, of ways that lead round, and of such as almost do.
func TestRound(t *testing.T) {
	for i, x := range tangles() {
		d := of(alike(4, 5), func(d *api.Desc) { d.Edges, d.Futures, d.Barriers = x.edges, x.futures, x.barriers })
		if holdWords(t, d) != x.isRound {
			t.Error(i, x)
		}
	}
	ring := of(alike(16, 2), nil)
	for part := range 15 {
		ring.Edges = append(ring.Edges, api.Edge{From: part, To: part + 1})
	}
	if holdWords(t, ring) {
		t.Error("a row of all parts leads round")
	}
	ring.Futures = futures(15, 0, 1)
	if !holdWords(t, ring) {
		t.Error("a ring of all parts doesn't lead round")
	}
}

// subsets hands out each choice of some of a row, by their places' bits.
func subsets[T any](row []T, give func(some []T)) {
	for bits := range 1 << len(row) {
		var some []T
		for i, x := range row {
			if bits>>i&1 == 1 {
				some = append(some, x)
			}
		}
		give(some)
	}
}

// smallTasks hands out all tasks of two parts of work 3 with barriers of one part a side, and all tasks of three parts of work 2 with at most one barrier.
func smallTasks(give func(d api.Desc)) {
	sides := []api.Barrier{{In: []int{0}, Out: []int{1}}, {In: []int{1}, Out: []int{0}}}
	subsets(edges(0, 1, 1, 0), func(e []api.Edge) {
		subsets(futures(0, 1, 1, 0, 1, 2, 1, 0, 1, 1, 0, 2), func(f []api.Future) {
			subsets(sides, func(b []api.Barrier) {
				give(of(alike(2, 3), func(d *api.Desc) { d.Edges, d.Futures, d.Barriers = e, f, b }))
			})
		})
	})
	barriers := [][]api.Barrier{nil}
	for choice := range 27 {
		var side [3][]int
		for part, k := range []int{choice % 3, choice / 3 % 3, choice / 9} {
			side[k] = append(side[k], part)
		}
		if len(side[0]) > 0 && len(side[1]) > 0 {
			barriers = append(barriers, []api.Barrier{{In: side[0], Out: side[1]}})
		}
	}
	subsets(edges(0, 1, 0, 2, 1, 0, 1, 2, 2, 0, 2, 1), func(e []api.Edge) {
		subsets(futures(1, 0, 1, 2, 1, 1, 0, 2, 1), func(f []api.Future) {
			for _, b := range barriers {
				give(of(alike(3, 2), func(d *api.Desc) { d.Edges, d.Futures, d.Barriers = e, f, b }))
			}
		})
	})
}

// holdWaits holds the ways in a lowered task against what waits for what, each unit of work by itself; whether a way leads round.
func holdWaits(t *testing.T, d api.Desc) bool {
	t.Helper()
	begins, to := units(d)
	l, e := Lower(d)
	if isRound := goesRound(to); isRound || e != api.OK {
		if !isRound || e != api.ErrLowRound || !isNothing(l) {
			t.Fatalf("%v: %v %d, round: %v", d, l, e, isRound)
		}
		return true
	}
	// first and last are each step's units of work.
	first, last := make([]int, len(l.Pieces)), make([]int, len(l.Pieces))
	for n, p := range l.Pieces {
		if p.Part >= 0 {
			first[n] = begins[p.Part]
			last[n] = first[n] + l.Dag.Work[n] - 1
			begins[p.Part] += l.Dag.Work[n]
		}
	}
	ways := behind(len(l.Pieces), l.Dag.Edges)
	for a, from := range l.Pieces {
		for b, upTo := range l.Pieces {
			if from.Part >= 0 && upTo.Part >= 0 && ways[a]>>b&1 != to[last[a]]>>first[b]&1 {
				t.Fatalf("%v: of %v and %v", d, from, upTo)
			}
		}
	}
	return false
}

// P7.1, P7.3: a step waits for another one just where its work does, and ways lead round just where work waits for itself: in all small tasks, and in many others.
func TestWays(t *testing.T) {
	right, round := 0, 0
	hold := func(d api.Desc) {
		if holdWaits(t, d) {
			round++
		} else {
			right++
		}
	}
	smallTasks(func(d api.Desc) {
		hold(d)
		holdWords(t, d)
	})
	tasks(4000, api.MaxParts, 4, func(d api.Desc, tame bool) { hold(d) })
	tasks(2000, 4, 16, func(d api.Desc, tame bool) { hold(d) })
	if right < 3000 || round < 3000 {
		t.Error("too few of a kind", right, round)
	}
}

// P7.3: the graph may be, and its work is that of all parts, and one for each barrier.
func TestWork(t *testing.T) {
	hold := func(d api.Desc) {
		l := lowered(t, d)
		work := len(d.Barriers)
		for _, p := range d.Parts {
			work += p.Work
		}
		sum := 0
		for _, w := range l.Dag.Work {
			sum += w
		}
		if dag.Check(l.Dag) != api.OK || dag.Total(l.Dag) != work || sum != work || len(l.Pieces) != len(l.Dag.Work) {
			t.Fatal(d, l, work)
		}
		for part, p := range d.Parts {
			done := 0
			for n := range l.Pieces {
				if l.Pieces[n].Part == part {
					done += l.Dag.Work[n]
				}
			}
			if done != p.Work {
				t.Fatal(d, l, part)
			}
		}
	}
	for _, d := range []api.Desc{example(), rich(), full(15), full(2, 3, 15)} {
		hold(d)
	}
	tasks(2000, api.MaxParts, api.MaxPartWork, func(d api.Desc, tame bool) {
		if tame {
			hold(d)
		}
	})
}

// steps are the nodes of a part.
func steps(l api.Low, part int) []int {
	var nodes []int
	for n, p := range l.Pieces {
		if p.Part == part {
			nodes = append(nodes, n)
		}
	}
	return nodes
}

// allBefore is whether ways lead from each of some nodes to each of others.
func allBefore(l api.Low, from, to []int) bool {
	for _, a := range from {
		for _, b := range to {
			if !dag.Before(l.Dag, a, b) {
				return false
			}
		}
	}
	return true
}

// P7.3: the user's steps behind a touch wait for all of the maker; those ahead wait for none of it that they don't wait for without that future.
func TestTouchWaits(t *testing.T) {
	hold := func(d api.Desc) {
		l := lowered(t, d)
		for place, f := range d.Futures {
			ahead := touched(d, f.User, f.At-1)
			user, maker := steps(l, f.User), steps(l, f.Maker)
			if !allBefore(l, maker, user[ahead+1:]) {
				t.Fatal("steps behind a touch don't wait", d, f)
			}
			without := copied(d)
			without.Futures = slices.Delete(without.Futures, place, place+1)
			other := lowered(t, without)
			for step := range ahead + 1 {
				n := Node(other, api.Piece{Part: f.User, Step: step})
				if dag.Before(l.Dag, Last(l, f.Maker), user[step]) != dag.Before(other.Dag, Last(other, f.Maker), n) {
					t.Fatal("steps ahead of a touch wait because of it", d, f)
				}
			}
		}
	}
	for _, d := range []api.Desc{example(), rich(), full(15), full(2, 3, 15)} {
		hold(d)
	}
	tasks(600, 8, 30, func(d api.Desc, tame bool) {
		if tame {
			hold(d)
		}
	})
	l := lowered(t, example())
	if !dag.Before(l.Dag, 0, 2) || dag.Before(l.Dag, 0, 1) || dag.Before(l.Dag, 1, 0) {
		t.Error("the example's second step alone waits for the maker")
	}
}

// P7.3: all of a barrier's Out wait for all of its In, by way of the barrier.
func TestBarrierWaits(t *testing.T) {
	hold := func(d api.Desc) {
		l := lowered(t, d)
		for place, b := range d.Barriers {
			n := Node(l, api.Piece{Part: -1, Step: place})
			for _, in := range b.In {
				for _, out := range b.Out {
					if !allBefore(l, steps(l, in), steps(l, out)) {
						t.Fatal("a part doesn't wait at a barrier", d, place, in, out)
					}
				}
				if !allBefore(l, steps(l, in), []int{n}) {
					t.Fatal("a barrier doesn't wait", d, place, in)
				}
			}
			for _, out := range b.Out {
				if !allBefore(l, []int{n}, steps(l, out)) {
					t.Fatal("a barrier isn't waited for", d, place, out)
				}
			}
		}
	}
	for _, d := range []api.Desc{rich(), full(15), full(2, 3, 15)} {
		hold(d)
	}
	tasks(600, 8, 30, func(d api.Desc, tame bool) {
		if tame {
			hold(d)
		}
	})
}

// P7.2: Node and Last, of all pieces of lowered tasks, and of what is no piece of them.
func TestNodeLast(t *testing.T) {
	hold := func(d api.Desc) {
		l := lowered(t, d)
		for n, p := range l.Pieces {
			if Node(l, p) != n {
				t.Fatal(d, p, Node(l, p))
			}
		}
		for part, p := range d.Parts {
			most := touched(d, part, p.Work)
			if n := Last(l, part); n != slices.Index(l.Pieces, api.Piece{Part: part, Step: most}) || n < 0 {
				t.Fatal(d, part, n)
			}
			if Node(l, api.Piece{Part: part, Step: most + 1}) != -1 || Node(l, api.Piece{Part: part, Step: -1}) != -1 {
				t.Fatal("a step that isn't there", d, part)
			}
		}
		for _, part := range append(far, -2, -1, len(d.Parts), len(d.Parts)+1) {
			if n := Last(l, part); n != -1 {
				t.Fatal("a part that isn't there", d, part, n)
			}
			if part != -1 && Node(l, api.Piece{Part: part}) != -1 {
				t.Fatal("a step of a part that isn't there", d, part)
			}
		}
		for _, place := range append(far, -1, len(d.Barriers), len(d.Barriers)+1) {
			if Node(l, api.Piece{Part: -1, Step: place}) != -1 {
				t.Fatal("a barrier that isn't there", d, place)
			}
		}
	}
	for _, d := range []api.Desc{of([]int{1}, nil), example(), rich(), full(15), full(2, 3, 15)} {
		hold(d)
	}
	tasks(1000, api.MaxParts, api.MaxPartWork, func(d api.Desc, tame bool) {
		if tame {
			hold(d)
		}
	})
	l := lowered(t, rich())
	if Node(l, api.Piece{Part: 3, Step: 2}) != 7 || Node(l, api.Piece{Part: -1, Step: 1}) != 10 || Last(l, 3) != 7 || Last(l, 0) != 0 || Last(l, 4) != 8 {
		t.Error("of the rich task")
	}
}

// P7.2: Node and Last, of pieces as they may stand in no lowered task: there twice, below 0, in any order, or none; what the graph is doesn't count.
func TestNodeLastAny(t *testing.T) {
	l := api.Low{Pieces: pieces(5, 1, -1, 0, 2, 9, 5, 0, -7, 3, 5, 1, 2, 9, math.MaxInt, math.MinInt, -1, 0)}
	for i, x := range []struct{ part, step, node, last int }{
		{5, 1, 0, 5}, {5, 0, 3, 5}, {5, 2, -1, 5},
		{2, 9, 2, 6}, {2, 0, -1, 6},
		{-1, 0, 1, -1}, {-1, 1, -1, -1},
		{-7, 3, 4, -1}, {-7, 0, -1, -1},
		{math.MaxInt, math.MinInt, 7, 7}, {math.MaxInt, 0, -1, 7}, {math.MinInt, math.MaxInt, -1, -1},
		{0, 0, -1, -1}, {1, 5, -1, -1}, {9, 2, -1, -1},
	} {
		if n := Node(l, api.Piece{Part: x.part, Step: x.step}); n != x.node {
			t.Error(i, "node", n)
		}
		if n := Last(l, x.part); n != x.last {
			t.Error(i, "last", n)
		}
	}
	for i, l := range []api.Low{{}, {Pieces: []api.Piece{}}, {Dag: api.Dag{Work: []int{1, 2}, Edges: edges(0, 1)}}} {
		if Node(l, api.Piece{}) != -1 || Node(l, api.Piece{Part: -1}) != -1 || Last(l, 0) != -1 || Last(l, -1) != -1 {
			t.Error(i, "without pieces")
		}
	}
}

// numbers hands out, one by one, each number of a lowered task.
func numbers(l *api.Low) []*int {
	var all []*int
	for i := range l.Dag.Work {
		all = append(all, &l.Dag.Work[i])
	}
	for i := range l.Dag.Edges {
		all = append(all, &l.Dag.Edges[i].From, &l.Dag.Edges[i].To)
	}
	for i := range l.Pieces {
		all = append(all, &l.Pieces[i].Part, &l.Pieces[i].Step)
	}
	return all
}

// P7.1: Same, of a lowered task and itself, and of such as differ in one number alone, at each place.
func TestSame(t *testing.T) {
	for i, l := range []api.Low{{}, lowered(t, of([]int{1}, nil)), lowered(t, example()), lowered(t, rich()), richLow(), lowered(t, full(15)), {Pieces: pieces(-9, 9)}, {Dag: api.Dag{Edges: edges(9, 9, 9, 9)}}} {
		if !Same(l, l) || !Same(l, copiedLow(l)) {
			t.Error(i, "itself")
		}
		other := copiedLow(l)
		for j, n := range numbers(&other) {
			for _, by := range []int{1, -1, 1 << 32} {
				*n += by
				if Same(l, other) || Same(other, l) {
					t.Error(i, j, by)
				}
				*n -= by
			}
		}
		if !Same(l, other) {
			t.Error(i, "changed back")
		}
	}
	if !Same(lowered(t, rich()), richLow()) || Same(lowered(t, rich()), lowered(t, full(15))) {
		t.Error("two tasks")
	}
}

// P7.1: Same, of lowered tasks that differ in how many there are of a thing, or in their order, and of nil and empty.
func TestSameRows(t *testing.T) {
	for i, change := range []func(l *api.Low){
		func(l *api.Low) { l.Dag.Work = l.Dag.Work[:10] },
		func(l *api.Low) { l.Dag.Work = append(l.Dag.Work, 0) },
		func(l *api.Low) { l.Dag.Work = nil },
		func(l *api.Low) { l.Dag.Edges = l.Dag.Edges[:16] },
		func(l *api.Low) { l.Dag.Edges = append(l.Dag.Edges, api.Edge{}) },
		func(l *api.Low) { l.Dag.Edges = nil },
		func(l *api.Low) { l.Pieces = l.Pieces[:10] },
		func(l *api.Low) { l.Pieces = append(l.Pieces, api.Piece{}) },
		func(l *api.Low) { l.Pieces = nil },
		func(l *api.Low) { slices.Reverse(l.Dag.Work) },
		func(l *api.Low) { l.Dag.Edges[0], l.Dag.Edges[16] = l.Dag.Edges[16], l.Dag.Edges[0] },
		func(l *api.Low) { l.Dag.Edges[3].From, l.Dag.Edges[3].To = l.Dag.Edges[3].To, l.Dag.Edges[3].From },
		func(l *api.Low) { l.Pieces[9], l.Pieces[10] = l.Pieces[10], l.Pieces[9] },
	} {
		l := richLow()
		change(&l)
		if Same(l, richLow()) || Same(richLow(), l) {
			t.Error(i)
		}
	}
	empty := api.Low{Dag: api.Dag{Work: []int{}, Edges: []api.Edge{}}, Pieces: []api.Piece{}}
	if !Same(api.Low{}, empty) || !Same(empty, api.Low{}) || Same(empty, richLow()) {
		t.Error("nil and empty")
	}
}

// P1: nothing that is handed in is changed, the spare room of its rows included.
func TestKept(t *testing.T) {
	d := rich()
	d.Parts, d.Edges, d.Futures, d.Barriers = append(d.Parts, api.Part{Work: 7}), append(d.Edges, api.Edge{From: 7}), append(d.Futures, api.Future{At: 7}), append(d.Barriers, api.Barrier{In: []int{7}})
	d.Barriers[0].In, d.Barriers[0].Out = append(d.Barriers[0].In, 7), append(d.Barriers[0].Out, 7)
	before := copied(d)
	d.Parts, d.Edges, d.Futures, d.Barriers = d.Parts[:5], d.Edges[:3], d.Futures[:4], d.Barriers[:2]
	d.Barriers[0].In, d.Barriers[0].Out = d.Barriers[0].In[:2], d.Barriers[0].Out[:2]
	if l := lowered(t, d); !equal(l, richLow()) {
		t.Error("something else is told", l)
	}
	d.Parts, d.Edges, d.Futures, d.Barriers = d.Parts[:6], d.Edges[:4], d.Futures[:5], d.Barriers[:3]
	d.Barriers[0].In, d.Barriers[0].Out = d.Barriers[0].In[:3], d.Barriers[0].Out[:3]
	if !desc.Same(d, before) {
		t.Error("what is handed in is changed")
	}
	l := richLow()
	l.Dag.Work, l.Dag.Edges, l.Pieces = append(l.Dag.Work, 7), append(l.Dag.Edges, api.Edge{From: 7}), append(l.Pieces, api.Piece{Part: 3})
	whole := copiedLow(l)
	l.Dag.Work, l.Dag.Edges, l.Pieces = l.Dag.Work[:11], l.Dag.Edges[:17], l.Pieces[:11]
	if !Same(l, richLow()) || Node(l, api.Piece{Part: 3}) != 5 || Last(l, 3) != 7 {
		t.Error("something else is told of a lowered task")
	}
	l.Dag.Work, l.Dag.Edges, l.Pieces = l.Dag.Work[:12], l.Dag.Edges[:18], l.Pieces[:12]
	if !equal(l, whole) {
		t.Error("a lowered task that is handed in is changed")
	}
}

// P1: what is handed out is new memory, shared with no argument and no other answer.
func TestNew(t *testing.T) {
	d := rich()
	first, second := lowered(t, d), lowered(t, d)
	first.Dag.Work = append(first.Dag.Work, -99)
	first.Dag.Edges = append(first.Dag.Edges, api.Edge{From: -99})
	first.Pieces = append(first.Pieces, api.Piece{Part: -99})
	for _, n := range numbers(&first) {
		*n = -99
	}
	if !equal(second, richLow()) {
		t.Error("two answers share memory")
	}
	if !desc.Same(d, rich()) {
		t.Error("an answer shares memory with what was handed in")
	}
	for i := range d.Edges {
		d.Edges[i] = api.Edge{From: -99, To: -99}
	}
	d.Futures[0].At, d.Parts[0].Work, d.Barriers[0].In[0] = -99, -99, -99
	if !equal(second, richLow()) {
		t.Error("what was handed in is kept")
	}
	if !equal(lowered(t, rich()), richLow()) {
		t.Error("an answer hangs on those ahead of it")
	}
}
