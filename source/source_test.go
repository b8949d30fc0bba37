package source

import (
	"math"
	"slices"
	"testing"

	"trefoil/api"
	"trefoil/desc"
	"trefoil/eval"
	"trefoil/lower"
)

// edges is an edge from the first to the second number, from the third to the fourth, and so on.
func edges(ends ...int) []api.Edge {
	var l []api.Edge
	for i := 0; i+1 < len(ends); i += 2 {
		l = append(l, api.Edge{From: ends[i], To: ends[i+1]})
	}
	return l
}

// futures is a future of three numbers each: Maker, User, At.
func futures(n ...int) []api.Future {
	var l []api.Future
	for i := 0; i+2 < len(n); i += 3 {
		l = append(l, api.Future{Maker: n[i], User: n[i+1], At: n[i+2]})
	}
	return l
}

// row is its numbers.
func row(n ...int) []int { return n }

// alike is so many numbers of one worth.
func alike(count, n int) []int { return slices.Repeat([]int{n}, count) }

// part is a part of work 1.
func part(op api.Op, arg int) api.Part { return api.Part{Op: op, Arg: arg, Work: 1} }

// of is a task of parts by their works, and all else that a part of the test gives it.
func of(works []int, change func(d *api.Desc)) api.Desc {
	d := api.Desc{Period: 64, Deadline: 64}
	for i, work := range works {
		d.Parts = append(d.Parts, api.Part{Op: api.Op(i % 6), Arg: i, Work: work})
	}
	if change != nil {
		change(&d)
	}
	return d
}

// mix is what comes of values by OpMix, as long as it doesn't go round.
func mix(vals ...int) int {
	n := 7
	for _, v := range vals {
		n = 31*n + v
	}
	return n
}

// rich is a task in which there is each thing, twice or more, its futures standing otherwise than by their users and At.
func rich() api.Desc {
	return of([]int{1, 3, 5, 4, 2}, func(d *api.Desc) {
		d.Parts[0].Op, d.Parts[0].Arg = api.OpInput, 1
		d.Parts[1].Op, d.Parts[1].Arg = api.OpConst, 3
		d.Parts[2].Op, d.Parts[3].Op, d.Parts[4].Op = api.OpMix, api.OpMix, api.OpMix
		d.Edges = edges(0, 2, 1, 4)
		d.Futures = futures(2, 3, 3, 1, 2, 2, 0, 2, 4, 1, 3, 1)
		d.Barriers = []api.Barrier{{In: row(0), Out: row(3, 4)}, {In: row(2, 3), Out: row(4)}}
	})
}

// richInput is an input of rich: of its parts the first one takes 5.
func richInput() []int { return []int{9, 5} }

// richVals is what rich comes to, of richInput: 2 takes 0's 5, then 1's 3, then 0's 5 again; 3 takes 1's 3, then 2's value; 4 takes 1's 3.
func richVals() []int { return []int{5, 3, mix(5, 3, 5), mix(3, mix(5, 3, 5)), mix(3)} }

// richStep is a part of rich that goes on, the parts that may go on then, and which part's value comes with it (-1: none).
type richStep struct {
	part int
	may  []int
	got  int
}

// richWalk is an order in which the parts of rich may go on.
func richWalk() []richStep {
	return []richStep{
		{0, row(1, 2, 3), 0},
		{2, row(1, 2, 3), -1},
		{2, row(1, 3), -1},
		{3, row(1), -1},
		{1, row(1), -1},
		{1, row(1), -1},
		{1, row(2, 3), 1},
		{3, row(2, 3), -1},
		{3, row(2), -1},
		{2, row(2), -1},
		{2, row(2), -1},
		{2, row(3), 2},
		{3, row(4), 3},
		{4, row(4), -1},
		{4, nil, 4},
	}
}

// full is a task of as much of each thing as there may be, its futures of one user or of several; no way leads round, since all rises.
func full(users ...int) api.Desc {
	return of(alike(api.MaxParts, api.MaxPartWork), func(d *api.Desc) {
		for a := 0; len(d.Edges) < api.MaxJoins; a++ {
			for b := api.MaxParts - 1; b > a && len(d.Edges) < api.MaxJoins; b-- {
				d.Edges = append(d.Edges, api.Edge{From: a, To: b})
			}
		}
		for i := range api.MaxFutures {
			user := users[i%len(users)]
			d.Futures = append(d.Futures, api.Future{Maker: i % user, User: user, At: 99 - i*98/15})
		}
		all := []int{0, 1, 2, 3, 4, 5, 6, 7, 8, 9, 10, 11, 12, 13, 14, 15}
		for i := range api.MaxBarriers {
			d.Barriers = append(d.Barriers, api.Barrier{In: slices.Clone(all[:5*i+1]), Out: slices.Clone(all[5*i+1:])})
		}
		d.Barriers[3] = api.Barrier{In: all[:15:15], Out: []int{15}}
	})
}

// copied is a task that shares nothing with another one.
func copied(d api.Desc) api.Desc {
	d.Parts, d.Edges, d.Futures, d.Barriers = slices.Clone(d.Parts), slices.Clone(d.Edges), slices.Clone(d.Futures), slices.Clone(d.Barriers)
	for i, b := range d.Barriers {
		d.Barriers[i] = api.Barrier{In: slices.Clone(b.In), Out: slices.Clone(b.Out)}
	}
	return d
}

// copiedState is a state that shares nothing with another one.
func copiedState(s api.State) api.State {
	return api.State{Work: slices.Clone(s.Work), Vals: slices.Clone(s.Vals)}
}

// equal is whether two states have the same in each place, not asked of the program.
func equal(a, b api.State) bool { return slices.Equal(a.Work, b.Work) && slices.Equal(a.Vals, b.Vals) }

// isNothing is whether a state is the zero value.
func isNothing(s api.State) bool { return equal(s, api.State{}) }

// worked is a state of so much work of each part, and of values 0.
func worked(work ...int) api.State {
	return api.State{Work: slices.Clone(work), Vals: make([]int, len(work))}
}

// allWork is all of each part's work.
func allWork(d api.Desc) []int {
	var all []int
	for _, p := range d.Parts {
		all = append(all, p.Work)
	}
	return all
}

// fresh is the state of a task that may be.
func fresh(t *testing.T, d api.Desc) api.State {
	t.Helper()
	s, e := New(d)
	if e != api.OK {
		t.Fatal(d, e)
	}
	return s
}

// gone is a state in which parts go on, one behind the other, without an error.
func gone(t *testing.T, d api.Desc, input []int, s api.State, parts ...int) api.State {
	t.Helper()
	for _, p := range parts {
		after, e := Go(d, input, s, p)
		if e != api.OK {
			t.Fatal(d, s, p, e)
		}
		s = after
	}
	return s
}

// far are numbers far from all that may be, and such as look small when they are cut to 32 bits.
var far = []int{math.MinInt, -1 << 32, 1 << 32, 1<<32 + 1, math.MaxInt}

// chance hands out numbers below a bound, always the same ones.
type chance uint64

func (c *chance) next(below int) int {
	*c = *c*6364136223846793005 + 1442695040888963407
	return int(uint64(*c)>>33) % below
}

// number is a whole number of any size: small, close to 2^32, or far off.
func (c *chance) number() int {
	wide := c.next(1<<31)<<33 | c.next(1<<31)<<2 | c.next(4)
	switch c.next(6) {
	case 0:
		return c.next(9) - 3
	case 1:
		return 1<<32 + c.next(9) - 4
	case 2:
		return -1<<32 + c.next(9) - 4
	case 3:
		return -wide
	}
	return wide >> c.next(63)
}

// numbers is up to so many whole numbers of any size.
func (c *chance) numbers(most int) []int {
	l := make([]int, c.next(most+1))
	for i := range l {
		l[i] = c.number()
	}
	return l
}

// row is so many numbers in an order by chance.
func (c *chance) row(count int) []int {
	l := make([]int, count)
	for i := range l {
		j := c.next(i + 1)
		l[i], l[j] = l[j], i
	}
	return l
}

// some is one or more of a row, rising.
func (c *chance) some(row []int) []int {
	l := slices.Clone(row[:1])
	for _, n := range row[1:] {
		if c.next(3) == 0 {
			l = append(l, n)
		}
	}
	slices.Sort(l)
	return l
}

// parts gives each part of a task a way and an argument by chance: most take others, so that their order counts.
func (c *chance) parts(d api.Desc) {
	for i := range d.Parts {
		p := &d.Parts[i]
		p.Op, p.Arg = api.OpMix, c.next(9)
		if c.next(2) == 0 {
			p.Op = api.Op(c.next(6))
		}
		if p.Op == api.OpConst {
			p.Arg = api.MaxArg - c.next(1<<31)
		}
	}
}

// task is a task of parts by their works, with up to so many of each other thing as a bound is; if it is tame all that waits stands, in one row of the parts, behind what it waits for.
func (c *chance) task(works []int, most int, tame bool) api.Desc {
	d, count := of(works, nil), len(works)
	c.parts(d)
	if count < 2 {
		return d
	}
	row := c.row(count)
	shuffle := func() {
		if !tame {
			row = c.row(count)
		}
	}
	two := func() (int, int) {
		shuffle()
		b := 1 + c.next(count-1)
		return row[c.next(b)], row[b]
	}
	for range c.next(1 + min(most, api.MaxJoins)) {
		a, b := two()
		if e := (api.Edge{From: a, To: b}); !slices.Contains(d.Edges, e) {
			d.Edges = append(d.Edges, e)
		}
	}
	for range c.next(1 + min(most, api.MaxFutures)) {
		maker, user := two()
		at := 1 + c.next(works[user])
		isTouched := slices.ContainsFunc(d.Futures, func(f api.Future) bool { return f.User == user && f.At == at })
		if at < works[user] && !isTouched {
			d.Futures = append(d.Futures, api.Future{Maker: maker, User: user, At: at})
		}
	}
	for range c.next(1 + min(most, api.MaxBarriers)) {
		shuffle()
		cut := 1 + c.next(count-1)
		d.Barriers = append(d.Barriers, api.Barrier{In: c.some(row[:cut]), Out: c.some(row[cut:])})
	}
	return d
}

// bounds is up to how many parts, up to which work, and up to how many of each other thing tasks have.
type bounds struct{ parts, work, most int }

// tasks hands out so many tasks by chance, within bounds.
func tasks(many int, within bounds, tame bool, give func(c *chance, d api.Desc)) {
	c := chance(9)
	for range many {
		works := make([]int, 1+c.next(within.parts))
		for j := range works {
			works[j] = 1 + c.next(within.work)
		}
		give(&c, c.task(works, 1+c.next(within.most), tame))
	}
}

// mayBegin is whether a part may begin, by the chapter's words.
func mayBegin(d api.Desc, s api.State, part int) bool {
	for _, e := range d.Edges {
		if e.To == part && s.Work[e.From] != d.Parts[e.From].Work {
			return false
		}
	}
	for _, b := range d.Barriers {
		for _, in := range b.In {
			if slices.Contains(b.Out, part) && s.Work[in] != d.Parts[in].Work {
				return false
			}
		}
	}
	return true
}

// mayGoOn is whether a part may go on, by the chapter's words.
func mayGoOn(d api.Desc, s api.State, part int) bool {
	work := s.Work[part]
	if work == d.Parts[part].Work || work == 0 && !mayBegin(d, s, part) {
		return false
	}
	for _, f := range d.Futures {
		if f.User == part && f.At == work && s.Work[f.Maker] != d.Parts[f.Maker].Work {
			return false
		}
	}
	return true
}

// goOn is the parts that may go on, by the chapter's words.
func goOn(d api.Desc, s api.State) []int {
	var l []int
	for part := range d.Parts {
		if mayGoOn(d, s, part) {
			l = append(l, part)
		}
	}
	return l
}

// mayBe is whether a state of a task that may be may be, by the chapter's words.
func mayBe(d api.Desc, s api.State) bool {
	if len(s.Work) != len(d.Parts) || len(s.Vals) != len(d.Parts) {
		return false
	}
	for part, work := range s.Work {
		if work < 0 || work > d.Parts[part].Work || work > 0 && !mayBegin(d, s, part) {
			return false
		}
	}
	for _, f := range d.Futures {
		if s.Work[f.User] > f.At && s.Work[f.Maker] != d.Parts[f.Maker].Work {
			return false
		}
	}
	return true
}

// feedsByWords is the parts whose values a part takes: those of its edges, then the makers of its futures, by rising At.
func feedsByWords(d api.Desc, user int) []int {
	var l []int
	for _, e := range d.Edges {
		if e.To == user {
			l = append(l, e.From)
		}
	}
	for at := 1; at < d.Parts[user].Work; at++ {
		for _, f := range d.Futures {
			if f.User == user && f.At == at {
				l = append(l, f.Maker)
			}
		}
	}
	return l
}

// goByWords is what Go has to answer of a task that may be.
func goByWords(d api.Desc, input []int, s api.State, part int) (api.State, api.Errno) {
	switch {
	case !mayBe(d, s):
		return api.State{}, api.ErrSourceForm
	case part < 0 || part >= len(d.Parts):
		return api.State{}, api.ErrSourcePart
	case s.Work[part] == d.Parts[part].Work:
		return api.State{}, api.ErrSourceDone
	case !mayGoOn(d, s, part):
		return api.State{}, api.ErrSourceWait
	}
	s = copiedState(s)
	s.Work[part]++
	if s.Work[part] == d.Parts[part].Work {
		var taken []int
		for _, maker := range feedsByWords(d, part) {
			taken = append(taken, s.Vals[maker])
		}
		s.Vals[part] = eval.Op(d.Parts[part], input, taken)
	}
	return s, api.OK
}

// valsByWords is what a task in which no way leads round comes to, with no regard to when: each part's value comes of those that it takes.
func valsByWords(d api.Desc, input []int) []int {
	vals, known := make([]int, len(d.Parts)), make([]bool, len(d.Parts))
	var value func(part int) int
	value = func(part int) int {
		if !known[part] {
			var taken []int
			for _, maker := range feedsByWords(d, part) {
				taken = append(taken, value(maker))
			}
			vals[part], known[part] = eval.Op(d.Parts[part], input, taken), true
		}
		return vals[part]
	}
	for part := range d.Parts {
		value(part)
	}
	return vals
}

// leadsRound is whether a way leads round in a task: since a part that is waited for is waited for whole, that is so just if a part waits, at its beginning or at a touch, for itself, by however many others.
func leadsRound(d api.Desc) bool {
	var waits [api.MaxParts][api.MaxParts]bool
	for _, e := range d.Edges {
		waits[e.To][e.From] = true
	}
	for _, f := range d.Futures {
		waits[f.User][f.Maker] = true
	}
	for _, b := range d.Barriers {
		for _, out := range b.Out {
			for _, in := range b.In {
				waits[out][in] = true
			}
		}
	}
	for by := range waits {
		for from := range waits {
			for to := range waits {
				waits[from][to] = waits[from][to] || waits[from][by] && waits[by][to]
			}
		}
	}
	for part := range waits {
		if waits[part][part] {
			return true
		}
	}
	return false
}

// P9.2: the chapter's example: a part of work 2, touched at 1, goes one step, and then waits for its maker.
func TestExample(t *testing.T) {
	d := of([]int{3, 2}, func(d *api.Desc) {
		d.Parts[0], d.Parts[1] = api.Part{Op: api.OpConst, Arg: 8, Work: 3}, api.Part{Op: api.OpSum, Work: 2}
		d.Futures = futures(0, 1, 1)
	})
	s := fresh(t, d)
	if l := May(d, s); !slices.Equal(l, row(0, 1)) {
		t.Error("at the beginning", l)
	}
	s = gone(t, d, nil, s, 1)
	if !equal(s, worked(0, 1)) {
		t.Error("one step", s)
	}
	for i := range 3 {
		if after, e := Go(d, nil, s, 1); e != api.ErrSourceWait || !isNothing(after) {
			t.Error(i, "it doesn't wait", after, e)
		}
		if l := May(d, s); !slices.Equal(l, row(0)) {
			t.Error(i, l)
		}
		s = gone(t, d, nil, s, 0)
	}
	if l := May(d, s); !slices.Equal(l, row(1)) || !equal(s, api.State{Work: row(3, 1), Vals: row(8, 0)}) {
		t.Error("its maker is done", l, s)
	}
	s = gone(t, d, nil, s, 1)
	if !equal(s, api.State{Work: row(3, 2), Vals: row(8, 8)}) || len(May(d, s)) != 0 {
		t.Error("all is done", s)
	}
}

// P9.1: New: of each part no work, and the value 0; also of tasks in which a way leads round.
func TestNew(t *testing.T) {
	for i, d := range []api.Desc{
		of([]int{1}, nil),
		of([]int{100}, nil),
		of([]int{2, 5}, func(d *api.Desc) { d.Futures = futures(0, 1, 3) }),
		of([]int{2, 5}, func(d *api.Desc) { d.Barriers = []api.Barrier{{In: row(0), Out: row(1)}} }),
		of([]int{2, 5}, func(d *api.Desc) { d.Edges = edges(0, 1, 1, 0) }),
		rich(),
		full(15),
		full(2, 3, 15),
	} {
		s, e := New(d)
		if e != api.OK || !equal(s, worked(alike(len(d.Parts), 0)...)) {
			t.Error(i, s, e)
		}
		if e := Check(d, s); e != api.OK {
			t.Error(i, e)
		}
	}
}

// eachWork hands out each choice of works of a task's parts, from one below 0 up to one above all.
func eachWork(d api.Desc, give func(work []int)) {
	work := alike(len(d.Parts), -1)
	for {
		give(work)
		part := 0
		for part < len(work) && work[part] > d.Parts[part].Work {
			work[part] = -1
			part++
		}
		if part == len(work) {
			return
		}
		work[part]++
	}
}

// P9.1, P9.2: Check, May and Go, of each state of small tasks, those in which a way leads round among them, held against the chapter's words.
func TestStates(t *testing.T) {
	right, wrong, round := 0, 0, 0
	hold := func(c *chance, d api.Desc) {
		input := c.numbers(3)
		if leadsRound(d) {
			round++
		}
		eachWork(d, func(work []int) {
			s, want, may := worked(work...), api.ErrSourceForm, []int(nil)
			for part := range s.Vals {
				s.Vals[part] = c.number()
			}
			if mayBe(d, s) {
				want, may = api.OK, goOn(d, s)
				right++
			} else {
				wrong++
			}
			if e := Check(d, s); e != want {
				t.Fatal(d, s, e, want)
			}
			if l := May(d, s); !slices.Equal(l, may) {
				t.Fatal(d, s, l, may)
			}
			for part := -1; part <= len(d.Parts); part++ {
				want, wantE := goByWords(d, input, s, part)
				if after, e := Go(d, input, s, part); e != wantE || !equal(after, want) {
					t.Fatal(d, s, part, after, e, want, wantE)
				}
			}
		})
	}
	c := chance(1)
	hold(&c, of([]int{1}, nil))
	hold(&c, of([]int{3, 2}, nil))
	hold(&c, rich())
	tasks(150, bounds{3, 4, 3}, true, hold)
	tasks(250, bounds{3, 4, 3}, false, hold)
	tasks(40, bounds{5, 2, 5}, true, hold)
	if right < 1000 || wrong < 1000 || round < 30 {
		t.Error("too few of a kind", right, wrong, round)
	}
}

// P9.1: Check, of states by name: which work may be done, and which not.
func TestCheck(t *testing.T) {
	d := rich()
	for i, x := range []struct {
		work []int
		want api.Errno
	}{
		// nothing; all; all but one of each part
		{row(0, 0, 0, 0, 0), api.OK},
		{row(1, 3, 5, 4, 2), api.OK},
		{row(1, 3, 5, 4, 1), api.OK},
		{row(1, 3, 5, 3, 0), api.OK},
		{row(1, 3, 4, 3, 0), api.OK},
		{row(1, 2, 2, 1, 0), api.OK},
		// below 0, and above all
		{row(-1, 0, 0, 0, 0), api.ErrSourceForm},
		{row(0, -1, 0, 0, 0), api.ErrSourceForm},
		{row(0, 0, -1, 0, 0), api.ErrSourceForm},
		{row(1, 3, 5, -1, 0), api.ErrSourceForm},
		{row(1, 3, 5, 4, -1), api.ErrSourceForm},
		{row(2, 0, 0, 0, 0), api.ErrSourceForm},
		{row(0, 4, 0, 0, 0), api.ErrSourceForm},
		{row(1, 3, 6, 0, 0), api.ErrSourceForm},
		{row(1, 3, 5, 5, 0), api.ErrSourceForm},
		{row(1, 3, 5, 4, 3), api.ErrSourceForm},
		// some is done of one who may not begin: by an edge, by a barrier, by the first of In, by the second
		{row(0, 3, 1, 0, 0), api.ErrSourceForm},
		{row(0, 3, 0, 1, 0), api.ErrSourceForm},
		{row(1, 3, 4, 4, 1), api.ErrSourceForm},
		{row(1, 3, 5, 3, 1), api.ErrSourceForm},
		{row(1, 3, 0, 3, 1), api.ErrSourceForm},
		{row(1, 3, 5, 0, 1), api.ErrSourceForm},
		// just as much as At, and more, while the maker isn't done, and when it is
		{row(1, 0, 2, 0, 0), api.OK},
		{row(1, 2, 2, 0, 0), api.OK},
		{row(1, 2, 3, 0, 0), api.ErrSourceForm},
		{row(1, 0, 3, 0, 0), api.ErrSourceForm},
		{row(1, 3, 3, 0, 0), api.OK},
		{row(1, 2, 0, 1, 0), api.OK},
		{row(1, 2, 0, 2, 0), api.ErrSourceForm},
		{row(1, 3, 0, 2, 0), api.OK},
		{row(1, 3, 0, 3, 0), api.OK},
		{row(1, 3, 0, 4, 0), api.ErrSourceForm},
		{row(1, 3, 4, 4, 0), api.ErrSourceForm},
		{row(1, 3, 5, 4, 0), api.OK},
	} {
		s := worked(x.work...)
		if e := Check(d, s); e != x.want {
			t.Error(i, x.work, e)
		}
		if l := May(d, s); x.want != api.OK && len(l) != 0 {
			t.Error(i, x.work, l)
		}
		for part := -1; part <= 5; part++ {
			if after, e := Go(d, nil, s, part); x.want != api.OK && (e != x.want || !isNothing(after)) {
				t.Error(i, x.work, part, after, e)
			}
		}
	}
}

// P9.1: Check, of works far from all that may be, of each part, alone and beside others.
func TestFarWork(t *testing.T) {
	d := rich()
	for _, n := range append(far, -2, 101, api.MaxValue) {
		for part := range d.Parts {
			for i, begin := range [][]int{alike(5, 0), allWork(d), row(1, 2, 2, 1, 0)} {
				s := worked(begin...)
				s.Work[part] = n
				if e := Check(d, s); e != api.ErrSourceForm || len(May(d, s)) != 0 {
					t.Error(n, part, i, e)
				}
				if after, e := Go(d, nil, s, part); e != api.ErrSourceForm || !isNothing(after) {
					t.Error(n, part, i, after, e)
				}
			}
		}
		if e := Check(d, worked(alike(5, n)...)); e != api.ErrSourceForm {
			t.Error(n, "of all parts", e)
		}
	}
}

// P9.1: Check, May and Go, of states with too few or too many numbers, in Work, in Vals and in both, and of any values.
func TestForm(t *testing.T) {
	for i, d := range []api.Desc{of([]int{1}, nil), of([]int{2, 5}, func(d *api.Desc) { d.Futures = futures(0, 1, 3) }), rich(), full(15)} {
		parts := len(d.Parts)
		for work := range parts + 3 {
			for vals := range parts + 3 {
				s, want := api.State{Work: make([]int, work), Vals: make([]int, vals)}, api.ErrSourceForm
				if work == parts && vals == parts {
					want = api.OK
				}
				if e := Check(d, s); e != want || (len(May(d, s)) > 0) != (want == api.OK) {
					t.Error(i, work, vals, e)
				}
				if after, e := Go(d, nil, s, 0); e != want || want != api.OK && !isNothing(after) {
					t.Error(i, work, vals, e)
				}
			}
		}
		for _, s := range []api.State{{}, {Work: make([]int, parts)}, {Vals: make([]int, parts)}, {Work: make([]int, 100000), Vals: make([]int, 100000)}, {Work: append(allWork(d), 0), Vals: make([]int, parts)}} {
			if e := Check(d, s); e != api.ErrSourceForm || len(May(d, s)) != 0 {
				t.Error(i, len(s.Work), len(s.Vals), e)
			}
		}
		for _, v := range append(far, -1, api.MaxValue) {
			s := api.State{Work: make([]int, parts), Vals: alike(parts, v)}
			if e := Check(d, s); e != api.OK || len(May(d, s)) == 0 {
				t.Error(i, v, e)
			}
		}
		if all := worked(allWork(d)...); Check(d, all) != api.OK || len(May(d, all)) != 0 {
			t.Error(i, "all is done")
		}
	}
}

// spoilt is a way to make rich wrong, and its error.
type spoilt struct {
	e     api.Errno
	spoil func(d *api.Desc)
}

// faults are ways to make rich wrong, of each of chapter 5's errors, by rising errors.
func faults() []spoilt {
	return []spoilt{
		{api.ErrDescMany, func(d *api.Desc) { d.Parts = append(d.Parts, slices.Repeat([]api.Part{{Work: 1}}, 12)...) }},
		{api.ErrDescMany, func(d *api.Desc) { d.Edges = append(d.Edges, make([]api.Edge, 47)...) }},
		{api.ErrDescMany, func(d *api.Desc) { d.Futures = append(d.Futures, make([]api.Future, 13)...) }},
		{api.ErrDescMany, func(d *api.Desc) { d.Barriers = append(d.Barriers, make([]api.Barrier, 3)...) }},
		{api.ErrDescTime, func(d *api.Desc) { d.Period = 65 }},
		{api.ErrDescTime, func(d *api.Desc) { d.Deadline = 65 }},
		{api.ErrDescPart, func(d *api.Desc) { d.Parts[4].Op = 6 }},
		{api.ErrDescPart, func(d *api.Desc) { d.Parts[1].Arg = 1 << 31 }},
		{api.ErrDescPart, func(d *api.Desc) { d.Parts[0].Work = 0 }},
		{api.ErrDescEdge, func(d *api.Desc) { d.Edges[0].To = 5 }},
		{api.ErrDescEdge, func(d *api.Desc) { d.Edges[1].From = -1 }},
		{api.ErrDescEdge, func(d *api.Desc) { d.Edges[1] = d.Edges[0] }},
		{api.ErrDescFuture, func(d *api.Desc) { d.Futures[2].Maker = 5 }},
		{api.ErrDescFuture, func(d *api.Desc) { d.Futures[1].At = 5 }},
		{api.ErrDescBarrier, func(d *api.Desc) { d.Barriers[0].In = nil }},
		{api.ErrDescBarrier, func(d *api.Desc) { d.Barriers[0].Out[1] = 5 }},
	}
}

// round makes a way of rich lead round, by an edge.
func round(d *api.Desc) { d.Edges = append(d.Edges, api.Edge{From: 4, To: 1}) }

// holdWrong holds what all calls answer of a task that may not be, with any state, against its error.
func holdWrong(t *testing.T, d api.Desc, want api.Errno) {
	t.Helper()
	if s, e := New(d); e != want || !isNothing(s) {
		t.Error(want, "New", s, e)
	}
	if l, e := Run(d, richInput()); e != want || len(l) != 0 {
		t.Error(want, "Run", l, e)
	}
	for i, s := range []api.State{{}, worked(0, 0, 0, 0, 0), worked(1, 3, 5, 4, 2), worked(0, 0, 1, 0, 0), worked(-1, 4, 0, 0, 0), {Work: make([]int, 5)}, {Vals: make([]int, 6)}} {
		if e := Check(d, s); e != want || len(May(d, s)) != 0 {
			t.Error(want, i, "Check", e)
		}
		for _, part := range append(far, -1, 0, 2, 4, 5) {
			if after, e := Go(d, richInput(), s, part); e != want || !isNothing(after) {
				t.Error(want, i, part, "Go", after, e)
			}
		}
	}
}

// P9.1, P9.2, P9.3: each of chapter 5's errors, alone, with each other one, and with a way that leads round, whatever else is wrong: the first one is told.
func TestWrong(t *testing.T) {
	for i, first := range faults() {
		d := rich()
		first.spoil(&d)
		holdWrong(t, d, first.e)
		round(&d)
		holdWrong(t, d, first.e)
		for _, other := range faults()[i+1:] {
			d := rich()
			first.spoil(&d)
			other.spoil(&d)
			holdWrong(t, d, first.e)
		}
	}
	holdWrong(t, api.Desc{}, api.ErrDescMany)
	holdWrong(t, of(nil, nil), api.ErrDescMany)
	for _, n := range far {
		for _, x := range []spoilt{
			{api.ErrDescTime, func(d *api.Desc) { d.Period = n }},
			{api.ErrDescTime, func(d *api.Desc) { d.Deadline = n }},
			{api.ErrDescPart, func(d *api.Desc) { d.Parts[4].Op = api.Op(n) }},
			{api.ErrDescPart, func(d *api.Desc) { d.Parts[4].Arg = n }},
			{api.ErrDescPart, func(d *api.Desc) { d.Parts[4].Work = n }},
			{api.ErrDescEdge, func(d *api.Desc) { d.Edges[0].From = n }},
			{api.ErrDescFuture, func(d *api.Desc) { d.Futures[0].Maker = n }},
			{api.ErrDescFuture, func(d *api.Desc) { d.Futures[0].At = n }},
			{api.ErrDescBarrier, func(d *api.Desc) { d.Barriers[0].Out[1] = n }},
		} {
			d := rich()
			x.spoil(&d)
			holdWrong(t, d, x.e)
		}
	}
}

// P9.1, P9.2: May and Go, of rich, step by step: who may go on at the beginning, in the middle and at the end; a part's value comes with the last of its work, and nothing comes ahead of it.
func TestSteps(t *testing.T) {
	d := rich()
	s := fresh(t, d)
	want := copiedState(s)
	if l := May(d, s); !slices.Equal(l, row(0, 1)) {
		t.Error("at the beginning", l)
	}
	for i, x := range richWalk() {
		for part := range d.Parts {
			if _, e := Go(d, richInput(), s, part); (e == api.OK) != slices.Contains(May(d, s), part) {
				t.Fatal(i, part, e)
			}
		}
		s = gone(t, d, richInput(), s, x.part)
		want.Work[x.part]++
		if x.got >= 0 {
			want.Vals[x.got] = richVals()[x.got]
		}
		if !equal(s, want) || Check(d, s) != api.OK {
			t.Fatal(i, x, s, want)
		}
		if l := May(d, s); !slices.Equal(l, x.may) {
			t.Fatal(i, x, l)
		}
	}
	if !slices.Equal(s.Vals, richVals()) || !slices.Equal(s.Work, allWork(d)) {
		t.Error("at the end", s)
	}
	for part := range d.Parts {
		if after, e := Go(d, richInput(), s, part); e != api.ErrSourceDone || !isNothing(after) {
			t.Error("all is done", part, e)
		}
	}
}

// P9.2: Go, of a task of one part alone, of each Op and of works from the least to the greatest: but the last of its work gives it its value.
func TestAlone(t *testing.T) {
	for op, want := range []int{6, 1, 0, 1, 0, 7} {
		for _, work := range []int{1, 2, 3, 99, 100} {
			d := of([]int{work}, func(d *api.Desc) { d.Parts[0] = api.Part{Op: api.Op(op), Arg: 1, Work: work} })
			s := fresh(t, d)
			for done := range work {
				if !equal(s, worked(done)) || !slices.Equal(May(d, s), row(0)) || Check(d, s) != api.OK {
					t.Fatal(op, work, done, s, May(d, s))
				}
				s = gone(t, d, []int{4, 6}, s, 0)
			}
			if !equal(s, api.State{Work: row(work), Vals: row(want)}) || len(May(d, s)) != 0 {
				t.Error(op, work, s)
			}
			if _, e := Go(d, []int{4, 6}, s, 0); e != api.ErrSourceDone {
				t.Error(op, work, e)
			}
		}
	}
}

// P9.2: Go, of a part that is touched at each place at which it may be, the last one ahead of the last of its work: it waits at each of them for that one's maker alone.
func TestTouches(t *testing.T) {
	d := of(alike(5, 2), func(d *api.Desc) {
		d.Parts[0] = api.Part{Op: api.OpMix, Work: 5}
		for i := 1; i < 5; i++ {
			d.Parts[i] = api.Part{Op: api.OpConst, Arg: 10 * i, Work: 2}
		}
		// 3 at 1, 1 at 2, 4 at 3, 2 at 4
		d.Futures = futures(2, 0, 4, 1, 0, 2, 4, 0, 3, 3, 0, 1)
	})
	s := gone(t, d, nil, fresh(t, d), 0)
	for i, maker := range []int{3, 1, 4, 2} {
		for range 2 {
			if _, e := Go(d, nil, s, 0); e != api.ErrSourceWait || slices.Contains(May(d, s), 0) || s.Vals[0] != 0 {
				t.Fatal(i, maker, s, e)
			}
			s = gone(t, d, nil, s, maker)
		}
		if !slices.Contains(May(d, s), 0) {
			t.Fatal(i, maker, s, "it waits still")
		}
		s = gone(t, d, nil, s, 0)
	}
	if !equal(s, api.State{Work: row(5, 2, 2, 2, 2), Vals: row(mix(30, 10, 40, 20), 10, 20, 30, 40)}) {
		t.Error(s)
	}
	// makers that are done ahead of all touches: nothing is waited for
	s = gone(t, d, nil, fresh(t, d), 1, 1, 2, 2, 3, 3, 4, 4, 0, 0, 0, 0, 0)
	if s.Vals[0] != mix(30, 10, 40, 20) {
		t.Error(s)
	}
	// but one of the makers isn't done
	s = gone(t, d, nil, fresh(t, d), 1, 1, 2, 3, 3, 4, 4, 0, 0, 0, 0)
	if _, e := Go(d, nil, s, 0); e != api.ErrSourceWait || !slices.Equal(May(d, s), row(2)) {
		t.Error("ahead of the last of its work", s, e)
	}
}

// P9.2: Go, of one part touched by as many as there may be: it goes on once with each maker that is done.
func TestManyTouches(t *testing.T) {
	d := of(alike(16, 1), func(d *api.Desc) {
		d.Parts[15] = api.Part{Op: api.OpSum, Work: 100}
		for i := range 15 {
			d.Parts[i] = part(api.OpConst, 1<<i)
			d.Futures = append(d.Futures, api.Future{Maker: i, User: 15, At: 99 - 7*i})
		}
		d.Futures = append(d.Futures, api.Future{Maker: 0, User: 15, At: 98})
	})
	s := fresh(t, d)
	for done := range 100 {
		for i, f := range d.Futures {
			if f.At == done && s.Work[f.Maker] == 0 {
				if _, e := Go(d, nil, s, 15); e != api.ErrSourceWait {
					t.Fatal(i, done, e)
				}
				s = gone(t, d, nil, s, f.Maker)
			}
		}
		s = gone(t, d, nil, s, 15)
	}
	if s.Vals[15] != 1<<15 || len(May(d, s)) != 0 {
		t.Error(s)
	}
}

// P9.2: a part that is in a barrier's Out waits for all of its In, and takes no value there; one that is in several waits for all of them, and one that is in none for none.
func TestBarriers(t *testing.T) {
	d := of(alike(6, 2), func(d *api.Desc) {
		for i := range d.Parts {
			d.Parts[i] = api.Part{Op: api.OpMix, Work: 2}
		}
		d.Barriers = []api.Barrier{{In: row(1, 2, 4), Out: row(0, 3)}, {In: row(0, 4), Out: row(3)}}
	})
	for i, in := range [][]int{{1, 2, 4}, {4, 2, 1}, {2, 4, 1}} {
		s := fresh(t, d)
		for j, p := range in {
			for range 2 {
				for _, out := range row(0, 3) {
					if _, e := Go(d, nil, s, out); e != api.ErrSourceWait || slices.Contains(May(d, s), out) {
						t.Fatal(i, j, out, s, e)
					}
				}
				if !slices.Contains(May(d, s), 5) || !slices.Contains(May(d, s), p) {
					t.Fatal(i, j, s, "a part waits that is in no Out")
				}
				s = gone(t, d, nil, s, p)
			}
		}
		if l := May(d, s); !slices.Equal(l, row(0, 5)) {
			t.Error(i, "all of In is done", l)
		}
		s = gone(t, d, nil, s, 0)
		if l := May(d, s); !slices.Equal(l, row(0, 5)) {
			t.Error(i, "of the other one's In there is one left", l)
		}
		s = gone(t, d, nil, s, 0)
		if l := May(d, s); !slices.Equal(l, row(3, 5)) {
			t.Error(i, "of both all of In is done", l)
		}
		s = gone(t, d, nil, s, 3, 3, 5, 5)
		if !equal(s, api.State{Work: alike(6, 2), Vals: alike(6, 7)}) {
			t.Error(i, s)
		}
	}
}

// P9.2: the values of a part's Feeds are taken in order: by its edges, as they stand, then by its touches, as they rise; the input is that of the call with which the last of the work is done.
func TestFeeds(t *testing.T) {
	d := of([]int{1, 1, 1, 2, 9}, func(d *api.Desc) {
		for i := range 4 {
			d.Parts[i].Op, d.Parts[i].Arg = api.OpInput, i
		}
		d.Parts[4].Op = api.OpMix
		d.Edges, d.Futures = edges(3, 4, 1, 4), futures(0, 4, 8, 2, 4, 1, 3, 4, 5)
	})
	order := row(0, 1, 2, 3, 3, 4, 4, 4, 4, 4, 4, 4, 4, 4)
	s := gone(t, d, []int{10, 20, 30, 40}, fresh(t, d), order...)
	if !slices.Equal(s.Vals, []int{10, 20, 30, 40, mix(40, 20, 30, 40, 10) % (1 << 32)}) {
		t.Error(s)
	}
	// another input with each step
	s = fresh(t, d)
	for i, p := range order {
		s = gone(t, d, alike(4, 100*i), s, p)
	}
	if !slices.Equal(s.Vals, []int{0, 100, 200, 400, mix(400, 100, 200, 400, 0) % (1 << 32)}) {
		t.Error(s)
	}
	s = gone(t, d, nil, fresh(t, d), order...)
	if !slices.Equal(s.Vals, []int{0, 0, 0, 0, mix(0, 0, 0, 0, 0) % (1 << 32)}) {
		t.Error("no input at all", s)
	}
}

// P9.2: Go, of states whose values no going on gave: each is taken as a value, and those of other parts, and of parts that aren't done by it, stay as they are.
func TestAnyVals(t *testing.T) {
	d := of([]int{1, 1, 2}, func(d *api.Desc) {
		d.Parts[2].Op = api.OpMix
		d.Edges, d.Futures = edges(1, 2), futures(0, 2, 1)
	})
	c := chance(2)
	for range 2000 {
		vals := []int{c.number(), c.number(), c.number()}
		s := gone(t, d, nil, api.State{Work: row(1, 1, 0), Vals: vals}, 2)
		if !equal(s, api.State{Work: row(1, 1, 1), Vals: vals}) {
			t.Fatal("the first step", vals, s)
		}
		want := eval.Op(d.Parts[2], nil, []int{vals[1], vals[0]})
		s = gone(t, d, nil, s, 2)
		if !equal(s, api.State{Work: row(1, 1, 2), Vals: []int{vals[0], vals[1], want}}) {
			t.Fatal("the last step", vals, s, want)
		}
		s = gone(t, d, []int{5}, api.State{Work: row(0, 0, 0), Vals: vals}, 0)
		if !equal(s, api.State{Work: row(1, 0, 0), Vals: []int{5, vals[1], vals[2]}}) {
			t.Fatal("the first part", vals, s)
		}
	}
}

// P9.2: which error Go tells: Check's, of no such part, of one that is done, of one that waits; each alone, and several at once.
func TestGoWrong(t *testing.T) {
	d := rich()
	s := gone(t, d, richInput(), fresh(t, d), 0, 2, 2, 3)
	form := copiedState(s)
	form.Work[4] = 1
	short := copiedState(s)
	short.Vals = short.Vals[:4]
	for i, x := range []struct {
		s    api.State
		part int
		want api.Errno
	}{
		{s, 0, api.ErrSourceDone},
		{s, 2, api.ErrSourceWait}, {s, 3, api.ErrSourceWait}, {s, 4, api.ErrSourceWait},
		{s, 1, api.OK},
		{s, -1, api.ErrSourcePart}, {s, -2, api.ErrSourcePart}, {s, 5, api.ErrSourcePart}, {s, 6, api.ErrSourcePart}, {s, 16, api.ErrSourcePart},
		// a state that may not be, with a part that is done, that waits, that may go on, and that isn't there
		{form, 0, api.ErrSourceForm}, {form, 2, api.ErrSourceForm}, {form, 4, api.ErrSourceForm}, {form, 1, api.ErrSourceForm}, {form, -1, api.ErrSourceForm}, {form, 5, api.ErrSourceForm},
		{short, 0, api.ErrSourceForm}, {short, 2, api.ErrSourceForm}, {short, 1, api.ErrSourceForm}, {short, 4, api.ErrSourceForm}, {short, -1, api.ErrSourceForm}, {short, 5, api.ErrSourceForm},
		{api.State{}, 0, api.ErrSourceForm}, {api.State{}, -1, api.ErrSourceForm},
	} {
		if after, e := Go(d, richInput(), x.s, x.part); e != x.want || e != api.OK && !isNothing(after) {
			t.Error(i, x.part, after, e)
		}
	}
	for _, part := range far {
		for i, x := range []struct {
			s    api.State
			want api.Errno
		}{{s, api.ErrSourcePart}, {form, api.ErrSourceForm}, {api.State{}, api.ErrSourceForm}} {
			if after, e := Go(d, nil, x.s, part); e != x.want || !isNothing(after) {
				t.Error(i, part, after, e)
			}
		}
	}
}

// P9.1, P9.2: May and Go, of tasks great and small, step by step in an order by chance, held against the chapter's words.
func TestGoByWords(t *testing.T) {
	hold := func(c *chance, d api.Desc) {
		input, s := c.numbers(4), fresh(t, d)
		for {
			may := May(d, s)
			if !slices.Equal(may, goOn(d, s)) || Check(d, s) != api.OK {
				t.Fatal(d, s, may)
			}
			for part := -1; part <= len(d.Parts); part++ {
				want, wantE := goByWords(d, input, s, part)
				if after, e := Go(d, input, s, part); e != wantE || !equal(after, want) {
					t.Fatal(d, s, part, after, e, want, wantE)
				}
			}
			if len(may) == 0 {
				break
			}
			s = gone(t, d, input, s, may[c.next(len(may))])
		}
		if slices.Equal(s.Work, allWork(d)) == leadsRound(d) {
			t.Fatal("something is left, or nothing is", d, s)
		}
	}
	tasks(60, bounds{16, 9, 48}, true, hold)
	tasks(200, bounds{4, 9, 4}, true, hold)
	tasks(200, bounds{6, 5, 3}, false, hold)
	c := chance(3)
	hold(&c, rich())
	hold(&c, full(15))
}

// P9.3: Run, of tasks with edges, futures and barriers, whose values are reckoned by hand.
func TestRun(t *testing.T) {
	chain := of(alike(16, 2), func(d *api.Desc) {
		for i := range 15 {
			d.Parts[i+1] = api.Part{Op: api.OpSum, Work: 2}
			d.Edges = append(d.Edges, api.Edge{From: i, To: i + 1})
		}
		d.Parts[0] = api.Part{Op: api.OpConst, Arg: 6, Work: 2}
		d.Edges = append(d.Edges, edges(0, 15, 1, 15, 3, 15)...)
	})
	for i, x := range []struct {
		d     api.Desc
		input []int
		want  []int
	}{
		{of([]int{1}, nil), nil, []int{0}},
		{of([]int{1}, nil), []int{8}, []int{8}},
		{of([]int{100}, nil), []int{-8, 3}, []int{1<<32 - 8}},
		{of(alike(6, 1), nil), []int{4}, []int{4, 1, 0, 1, 0, 7}},
		// edges that stand otherwise than the parts, which wait for greater ones
		{of(alike(3, 1), func(d *api.Desc) {
			d.Parts = []api.Part{part(api.OpMix, 0), part(api.OpConst, 1), part(api.OpConst, 2)}
			d.Edges = edges(2, 0, 1, 0)
		}), nil, []int{6790, 1, 2}},
		// a future's value beside an edge's, and a product that goes round
		{of([]int{2, 5}, func(d *api.Desc) {
			d.Parts[0], d.Parts[1] = part(api.OpInput, 0), api.Part{Op: api.OpProd, Work: 5}
			d.Edges, d.Futures = edges(0, 1), futures(0, 1, 3)
		}), []int{api.MaxValue}, []int{api.MaxValue, 1}},
		// a user that is less than its maker
		{of([]int{2, 5}, func(d *api.Desc) {
			d.Parts[0].Op, d.Parts[1].Op, d.Parts[1].Arg = api.OpMix, api.OpInput, 1
			d.Futures = futures(1, 0, 1)
		}), []int{4, 9}, []int{226, 9}},
		// who waits at a barrier takes no value there
		{of([]int{2, 5, 3}, func(d *api.Desc) {
			d.Parts[2], d.Parts[1], d.Parts[0] = part(api.OpConst, 9), part(api.OpSum, 0), part(api.OpMix, 0)
			d.Barriers = []api.Barrier{{In: row(2), Out: row(0, 1)}}
		}), nil, []int{7, 0, 9}},
		{chain, nil, append(alike(15, 6), 24)},
		{rich(), richInput(), richVals()},
	} {
		if vals, e := Run(x.d, x.input); e != api.OK || !slices.Equal(vals, x.want) {
			t.Error(i, vals, e, x.want)
		}
	}
	if vals, e := Run(rich(), nil); e != api.OK || !slices.Equal(vals, []int{0, 3, mix(0, 3, 0), mix(3, mix(0, 3, 0)), 220}) {
		t.Error("no input at all", vals, e)
	}
}

// rounds are tasks of parts of work 2 in which a way leads round: by edges, by futures, by barriers, by two of them, by all.
func rounds() []api.Desc {
	with := func(parts int, e []api.Edge, f []api.Future, b ...api.Barrier) api.Desc {
		return of(alike(parts, 2), func(d *api.Desc) { d.Edges, d.Futures, d.Barriers = e, f, b })
	}
	barrier := func(in, out int) api.Barrier { return api.Barrier{In: row(in), Out: row(out)} }
	return []api.Desc{
		with(2, edges(0, 1, 1, 0), nil),
		with(3, edges(0, 1, 1, 2, 2, 0), nil),
		with(5, edges(4, 3, 3, 1, 1, 4), nil),
		with(2, nil, futures(0, 1, 1, 1, 0, 1)),
		with(3, nil, futures(0, 1, 1, 1, 2, 1, 2, 0, 1)),
		with(2, nil, nil, barrier(0, 1), barrier(1, 0)),
		with(3, nil, nil, barrier(2, 1), barrier(1, 0), barrier(0, 2)),
		with(4, nil, nil, api.Barrier{In: row(0, 2), Out: row(1, 3)}, api.Barrier{In: row(3), Out: row(2)}),
		with(2, edges(0, 1), futures(1, 0, 1)),
		with(2, edges(1, 0), futures(0, 1, 1)),
		with(2, edges(0, 1), nil, barrier(1, 0)),
		with(2, nil, futures(1, 0, 1), barrier(0, 1)),
		with(3, edges(0, 1), futures(1, 2, 1), barrier(2, 0)),
		with(3, edges(2, 1), futures(1, 0, 1), barrier(0, 2)),
		with(16, edges(14, 15), futures(15, 13, 1), barrier(13, 14)),
	}
}

// P9.3: ErrSourceRound, of ways that lead round by edges, by futures and by barriers, alone and together; New, Check, May and Go don't tell it.
func TestRound(t *testing.T) {
	for i, d := range rounds() {
		for _, input := range [][]int{nil, {1, 2}} {
			if vals, e := Run(d, input); e != api.ErrSourceRound || len(vals) != 0 {
				t.Error(i, vals, e)
			}
		}
		s := fresh(t, d)
		for may := May(d, s); len(may) > 0; may = May(d, s) {
			s = gone(t, d, nil, s, may[len(may)-1])
		}
		if Check(d, s) != api.OK || slices.Equal(s.Work, allWork(d)) {
			t.Error(i, "nothing is left", s)
		}
		left := 0
		for part, work := range s.Work {
			want := api.ErrSourceDone
			if work < 2 {
				want = api.ErrSourceWait
				left++
			}
			if after, e := Go(d, nil, s, part); e != want || !isNothing(after) {
				t.Error(i, part, after, e)
			}
		}
		if left < 2 {
			t.Error(i, "but one waits", s)
		}
		// no part can come so far, but by the chapter's words the state may be: each one's waiting is over
		if all := worked(allWork(d)...); Check(d, all) != api.OK || len(May(d, all)) != 0 {
			t.Error(i, "all is done")
		}
	}
	for i, d := range []api.Desc{
		of(alike(3, 2), func(d *api.Desc) { d.Edges = edges(0, 1, 0, 2, 1, 2) }),
		of(alike(2, 2), func(d *api.Desc) { d.Edges, d.Futures = edges(0, 1), futures(0, 1, 1) }),
		of(alike(2, 2), func(d *api.Desc) {
			d.Edges, d.Futures, d.Barriers = edges(1, 0), futures(1, 0, 1), []api.Barrier{{In: row(1), Out: row(0)}}
		}),
		of(alike(4, 2), func(d *api.Desc) {
			d.Barriers = []api.Barrier{{In: row(0, 1), Out: row(2, 3)}, {In: row(2), Out: row(3)}}
		}),
	} {
		if _, e := Run(d, nil); e != api.OK {
			t.Error(i, "no way leads round", e)
		}
	}
}

// P9.3, P9.4: Run, of many tasks, held against the chapter's words, against chapter 8's Run, and against the states that it goes through; ErrSourceRound just where that tells ErrLowRound.
func TestRunByWords(t *testing.T) {
	there := 0
	hold := func(c *chance, d api.Desc) {
		input := c.numbers(9)
		vals, e := Run(d, input)
		others, otherE := eval.Run(d, input)
		_, lowE := lower.Lower(d)
		if leadsRound(d) {
			there++
			if e != api.ErrSourceRound || otherE != api.ErrLowRound || lowE != api.ErrLowRound || len(vals) != 0 {
				t.Fatal(d, vals, e, otherE, lowE)
			}
			return
		}
		if e != api.OK || otherE != api.OK || !slices.Equal(vals, others) || !slices.Equal(vals, valsByWords(d, input)) {
			t.Fatal(d, input, vals, e, others, otherE)
		}
	}
	tasks(1000, bounds{16, 100, 48}, true, hold)
	tasks(1500, bounds{4, 9, 4}, true, hold)
	if there > 0 {
		t.Error("a way of a tame task leads round")
	}
	tasks(1500, bounds{6, 9, 4}, false, hold)
	if there < 300 || there > 1400 {
		t.Error("too few of a kind", there)
	}
	c := chance(4)
	for _, d := range append(rounds(), rich(), full(15), full(2, 3, 15)) {
		hold(&c, d)
	}
	// the least part that may go on, again and again
	tasks(40, bounds{6, 9, 6}, true, func(c *chance, d api.Desc) {
		input, s := c.numbers(4), fresh(t, d)
		for may := May(d, s); len(may) > 0; may = May(d, s) {
			s = gone(t, d, input, s, may[0])
		}
		if vals, e := Run(d, input); e != api.OK || !slices.Equal(vals, s.Vals) {
			t.Fatal(d, s, vals, e)
		}
	})
}

// P9.4: Run tells the error that chapter 8's Run tells where a task may not be.
func TestRunWrong(t *testing.T) {
	for i, x := range faults() {
		d := rich()
		x.spoil(&d)
		vals, e := Run(d, nil)
		if _, other := eval.Run(d, nil); e != x.e || other != x.e || len(vals) != 0 {
			t.Error(i, vals, e, other)
		}
	}
}

// endings hands out the state at each end to which a task comes, in whichever order its parts go on: states that were seen are not gone on from again.
func endings(t *testing.T, d api.Desc, input []int, give func(s api.State)) {
	seen := map[string]api.State{}
	var walk func(s api.State)
	walk = func(s api.State) {
		var key []byte
		for _, work := range s.Work {
			key = append(key, byte(work))
		}
		if other, is := seen[string(key)]; is {
			if !equal(s, other) {
				t.Fatal("two orders, two states", d, s, other)
			}
			return
		}
		seen[string(key)] = s
		may := May(d, s)
		if len(may) == 0 {
			give(s)
		}
		for _, p := range may {
			walk(gone(t, d, input, s, p))
		}
	}
	walk(fresh(t, d))
}

// P9.4: in whichever order parts go on, the values are the same in the end: all orders of small tasks, and some of great ones.
func TestOrders(t *testing.T) {
	all := func(c *chance, d api.Desc) {
		input, times := c.numbers(4), 0
		vals, e := Run(d, input)
		endings(t, d, input, func(s api.State) {
			times++
			isDone := slices.Equal(s.Work, allWork(d))
			if isDone != (e == api.OK) || isDone && !slices.Equal(s.Vals, vals) {
				t.Fatal(d, s, vals, e)
			}
		})
		if times != 1 || e != api.OK && e != api.ErrSourceRound {
			t.Fatal(d, times, e)
		}
	}
	c := chance(5)
	all(&c, rich())
	all(&c, of(alike(8, 1), nil))
	all(&c, of(alike(3, 9), nil))
	tasks(150, bounds{4, 4, 4}, true, all)
	tasks(100, bounds{4, 4, 2}, false, all)
	some := func(c *chance, d api.Desc) {
		input := c.numbers(4)
		vals, _ := Run(d, input)
		for _, choose := range []func(may []int) int{
			func(may []int) int { return may[0] },
			func(may []int) int { return may[len(may)-1] },
			func(may []int) int { return may[c.next(len(may))] },
		} {
			s := fresh(t, d)
			for may := May(d, s); len(may) > 0; may = May(d, s) {
				s = gone(t, d, input, s, choose(may))
			}
			if !slices.Equal(s.Vals, vals) || !slices.Equal(s.Work, allWork(d)) {
				t.Fatal(d, s, vals)
			}
		}
	}
	some(&c, full(15))
	some(&c, full(2, 3, 15))
	tasks(40, bounds{16, 20, 48}, true, some)
}

// P9.1: Same, of a state and itself, and of such as differ in one thing alone, at each place.
func TestSame(t *testing.T) {
	d := rich()
	half := gone(t, d, richInput(), fresh(t, d), 0, 2, 2, 3, 1)
	for i, s := range []api.State{{}, fresh(t, of([]int{1}, nil)), fresh(t, d), half, fresh(t, full(15)), {Work: row(7)}, {Vals: row(7)}, {Work: row(-1, 0), Vals: row(1, -2, 3)}} {
		if !Same(s, s) || !Same(s, copiedState(s)) {
			t.Error(i, "itself")
		}
		other := copiedState(s)
		for name, l := range map[string][]int{"Work": other.Work, "Vals": other.Vals} {
			for j := range l {
				for _, by := range []int{1, -1, 1 << 32} {
					l[j] += by
					if Same(s, other) || Same(other, s) {
						t.Error(i, j, by, name)
					}
					l[j] -= by
				}
			}
		}
		if !Same(s, other) {
			t.Error(i, "changed back")
		}
	}
}

// P9.1: Same, of states that differ in how many there are of a thing, or in their order, and of nil and empty.
func TestSameRows(t *testing.T) {
	d := rich()
	begin := gone(t, d, richInput(), fresh(t, d), 0, 2, 2, 3, 1, 1, 1)
	for i, change := range []func(s *api.State){
		func(s *api.State) { s.Work = s.Work[:4] },
		func(s *api.State) { s.Work = append(s.Work, 0) },
		func(s *api.State) { s.Work = s.Work[1:] },
		func(s *api.State) { s.Work = nil },
		func(s *api.State) { s.Vals = s.Vals[:4] },
		func(s *api.State) { s.Vals = append(s.Vals, 0) },
		func(s *api.State) { s.Vals = s.Vals[1:] },
		func(s *api.State) { s.Vals = nil },
		func(s *api.State) { slices.Reverse(s.Work) },
		func(s *api.State) { slices.Reverse(s.Vals) },
		func(s *api.State) { s.Work, s.Vals = s.Vals, s.Work },
	} {
		s := copiedState(begin)
		change(&s)
		if Same(s, begin) || Same(begin, s) {
			t.Error(i)
		}
	}
	empty := api.State{Work: []int{}, Vals: []int{}}
	if !Same(api.State{}, empty) || !Same(empty, api.State{}) || Same(empty, begin) || !Same(api.State{Vals: row(3)}, api.State{Work: []int{}, Vals: row(3)}) || !Same(api.State{Work: row(3)}, api.State{Work: row(3), Vals: []int{}}) {
		t.Error("nil and empty")
	}
}

// longer is rich whose rows have so much of their spare room more.
func longer(d api.Desc, by int) api.Desc {
	d.Parts, d.Edges, d.Futures, d.Barriers = d.Parts[:5+by], d.Edges[:2+by], d.Futures[:4+by], d.Barriers[:2+by]
	d.Barriers[0].In, d.Barriers[0].Out = d.Barriers[0].In[:1+by], d.Barriers[0].Out[:2+by]
	return d
}

// P1: nothing that is handed in is changed, the spare room of its rows included.
func TestKept(t *testing.T) {
	d := rich()
	d.Parts, d.Edges, d.Futures, d.Barriers = append(d.Parts, api.Part{Work: 7}), append(d.Edges, api.Edge{From: 7}), append(d.Futures, api.Future{At: 7}), append(d.Barriers, api.Barrier{In: row(7)})
	d.Barriers[0].In, d.Barriers[0].Out = append(d.Barriers[0].In, 7), append(d.Barriers[0].Out, 7)
	before := copied(d)
	d = longer(d, 0)
	work, vals, input := row(1, 3, 4, 2, 0, 77, 78), row(5, 3, -9, -4, 0, 77, 78), row(9, 5, 79)
	workBefore, valsBefore, inputBefore := slices.Clone(work), slices.Clone(vals), slices.Clone(input)
	s := api.State{Work: work[:5], Vals: vals[:5]}
	after, e := Go(d, input[:2], s, 2)
	if e != api.OK || !equal(after, api.State{Work: row(1, 3, 5, 2, 0), Vals: row(5, 3, richVals()[2], -4, 0)}) {
		t.Error("something else is told", after, e)
	}
	for part := -1; part <= 5; part++ {
		Go(d, input[:2], s, part)
	}
	if Check(d, s) != api.OK || !slices.Equal(May(d, s), row(2, 3)) || !Same(s, copiedState(s)) {
		t.Error("something else is told of a state")
	}
	if l, e := Run(d, input[:2]); e != api.OK || !slices.Equal(l, richVals()) {
		t.Error("something else is told by Run", l, e)
	}
	if !equal(fresh(t, d), worked(0, 0, 0, 0, 0)) {
		t.Error("something else is told by New")
	}
	if !slices.Equal(work, workBefore) || !slices.Equal(vals, valsBefore) || !slices.Equal(input, inputBefore) {
		t.Error("a state, or an input, is changed")
	}
	if !desc.Same(longer(d, 1), before) {
		t.Error("a task is changed")
	}
}

// spoil writes over all of a state, its spare room included.
func spoil(s api.State) {
	for _, l := range [][]int{s.Work[:cap(s.Work)], s.Vals[:cap(s.Vals)]} {
		for i := range l {
			l[i] = -99
		}
	}
}

// P1: what is handed out is new memory, shared with no argument and no other answer, and no two lists of one answer share any.
func TestNewMemory(t *testing.T) {
	d := rich()
	s := gone(t, d, richInput(), fresh(t, d), 0, 2)
	keep := copiedState(s)
	first, second := gone(t, d, richInput(), s, 3), gone(t, d, richInput(), s, 3)
	want := copiedState(second)
	spoil(first)
	if !equal(second, want) || !equal(s, keep) {
		t.Error("an answer of Go shares memory")
	}
	spoil(s)
	if !equal(second, want) {
		t.Error("a state that was handed in is kept")
	}
	for i, s := range []api.State{fresh(t, d), gone(t, d, nil, fresh(t, d), 1)} {
		vals := slices.Clone(s.Vals)
		spoil(api.State{Work: s.Work})
		if !slices.Equal(s.Vals, vals) {
			t.Error(i, "two lists of an answer share memory")
		}
	}
	spoil(fresh(t, d))
	if !equal(fresh(t, d), worked(0, 0, 0, 0, 0)) {
		t.Error("two answers of New share memory")
	}
	vals, _ := Run(d, richInput())
	others, _ := Run(d, richInput())
	spoil(api.State{Vals: vals})
	if !slices.Equal(others, richVals()) {
		t.Error("two answers of Run share memory")
	}
	may, other := May(d, second), May(d, second)
	spoil(api.State{Work: may})
	if !slices.Equal(other, May(d, second)) || slices.Contains(other, -99) {
		t.Error("two answers of May share memory")
	}
	if !desc.Same(d, rich()) {
		t.Error("an answer shares memory with a task")
	}
	d.Parts[1].Arg, d.Edges[0] = 8, api.Edge{From: 0, To: 3}
	if l, e := Run(rich(), richInput()); e != api.OK || !slices.Equal(l, richVals()) {
		t.Error("an answer hangs on those ahead of it", l, e)
	}
}
