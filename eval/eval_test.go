package eval

import (
	"math"
	"math/big"
	"slices"
	"testing"

	"trefoil/api"
	"trefoil/dag"
	"trefoil/desc"
	"trefoil/lower"
)

// edges is an edge from the first to the second number, from the third to the fourth, and so on.
func edges(ends ...int) []api.Edge {
	var l []api.Edge
	for i := 0; i+1 < len(ends); i += 2 {
		l = append(l, api.Edge{From: ends[i], To: ends[i+1]})
	}
	return l
}

// futures is a future of three numbers each: Maker, User, At.
func futures(n ...int) []api.Future {
	var l []api.Future
	for i := 0; i+2 < len(n); i += 3 {
		l = append(l, api.Future{Maker: n[i], User: n[i+1], At: n[i+2]})
	}
	return l
}

// part is a part of work 1.
func part(op api.Op, arg int) api.Part { return api.Part{Op: op, Arg: arg, Work: 1} }

// of is a task of parts by their works, and all else that a part of the test gives it.
func of(works []int, change func(d *api.Desc)) api.Desc {
	d := api.Desc{Period: 64, Deadline: 64}
	for i, work := range works {
		d.Parts = append(d.Parts, api.Part{Op: api.Op(i % 6), Arg: i, Work: work})
	}
	if change != nil {
		change(&d)
	}
	return d
}

// alike is so many numbers of one worth.
func alike(count, n int) []int { return slices.Repeat([]int{n}, count) }

// rich is a task in which there is each thing, twice or more, its futures standing otherwise than by their users and At.
func rich() api.Desc {
	return of([]int{1, 4, 20, 30, 8}, func(d *api.Desc) {
		d.Parts[0].Op, d.Parts[0].Arg = api.OpInput, 1
		d.Parts[1].Op, d.Parts[1].Arg = api.OpConst, 3
		d.Parts[2].Op, d.Parts[3].Op, d.Parts[4].Op = api.OpMix, api.OpMix, api.OpMax
		d.Edges = edges(2, 3, 0, 2, 1, 4)
		d.Futures = futures(0, 3, 17, 1, 2, 9, 2, 3, 5, 0, 2, 4)
		d.Barriers = []api.Barrier{{In: []int{0, 1}, Out: []int{3, 4}}, {In: []int{2}, Out: []int{4}}}
	})
}

// richInput is an input of rich: of its parts the first one takes 5.
func richInput() []int { return []int{9, 5} }

// richVals is what rich comes to, of richInput: 2 takes 0's 5 twice, then 1's 3; 3 takes 2's value twice, then 0's 5; 4 takes 1's 3.
func richVals() []int {
	mixed := ((7*31+5)*31+5)*31 + 3
	return []int{5, 3, mixed, ((7*31+mixed)*31+mixed)*31 + 5, 3}
}

// richStep is a node of rich that is finished, what is ready then, and which part's value comes with it (-1: none).
type richStep struct {
	node  int
	ready []int
	part  int
}

// richWalk is an order in which the nodes of rich may be finished: 0 is part 0, 1 part 1; 2, 3, 4 are part 2; 5, 6, 7 part 3; 8 is part 4; 9, 10 are the barriers.
func richWalk() []richStep {
	return []richStep{
		{0, []int{1, 2}, 0},
		{2, []int{1, 3}, -1},
		{1, []int{3, 9}, 1},
		{3, []int{4, 9}, -1},
		{4, []int{9, 10}, 2},
		{10, []int{9}, -1},
		{9, []int{5, 8}, -1},
		{8, []int{5}, 4},
		{5, []int{6}, -1},
		{6, []int{7}, -1},
		{7, nil, 3},
	}
}

// full is a task of as much of each thing as there may be, its futures of one user or of several; no way leads round, since all rises.
func full(users ...int) api.Desc {
	return of(alike(api.MaxParts, api.MaxPartWork), func(d *api.Desc) {
		for a := 0; len(d.Edges) < api.MaxJoins; a++ {
			for b := api.MaxParts - 1; b > a && len(d.Edges) < api.MaxJoins; b-- {
				d.Edges = append(d.Edges, api.Edge{From: a, To: b})
			}
		}
		for i := range api.MaxFutures {
			user := users[i%len(users)]
			d.Futures = append(d.Futures, api.Future{Maker: i % user, User: user, At: 99 - i*98/15})
		}
		all := []int{0, 1, 2, 3, 4, 5, 6, 7, 8, 9, 10, 11, 12, 13, 14, 15}
		for i := range api.MaxBarriers {
			d.Barriers = append(d.Barriers, api.Barrier{In: slices.Clone(all[:5*i+1]), Out: slices.Clone(all[5*i+1:])})
		}
		d.Barriers[3] = api.Barrier{In: all[:15:15], Out: []int{15}}
	})
}

// copied is a task that shares nothing with another one.
func copied(d api.Desc) api.Desc {
	d.Parts, d.Edges, d.Futures, d.Barriers = slices.Clone(d.Parts), slices.Clone(d.Edges), slices.Clone(d.Futures), slices.Clone(d.Barriers)
	for i, b := range d.Barriers {
		d.Barriers[i] = api.Barrier{In: slices.Clone(b.In), Out: slices.Clone(b.Out)}
	}
	return d
}

// copiedMemory is a memory that shares nothing with another one.
func copiedMemory(m api.Memory) api.Memory {
	return api.Memory{Done: slices.Clone(m.Done), Vals: slices.Clone(m.Vals)}
}

// equal is whether two memories have the same in each place, not asked of the program.
func equal(a, b api.Memory) bool { return slices.Equal(a.Done, b.Done) && slices.Equal(a.Vals, b.Vals) }

// isNothing is whether a memory is the zero value.
func isNothing(m api.Memory) bool { return equal(m, api.Memory{}) }

// lowered is a task lowered without an error.
func lowered(t *testing.T, d api.Desc) api.Low {
	t.Helper()
	l, e := lower.Lower(d)
	if e != api.OK {
		t.Fatal(d, e)
	}
	return l
}

// fresh is the memory of a task that may be lowered.
func fresh(t *testing.T, d api.Desc) api.Memory {
	t.Helper()
	m, e := New(d)
	if e != api.OK {
		t.Fatal(d, e)
	}
	return m
}

// finished is a memory in which nodes are finished, one behind the other, without an error.
func finished(t *testing.T, d api.Desc, input []int, m api.Memory, nodes ...int) api.Memory {
	t.Helper()
	for _, n := range nodes {
		after, e := Finish(d, input, m, n)
		if e != api.OK {
			t.Fatal(d, m, n, e)
		}
		m = after
	}
	return m
}

// far are numbers far from all that may be, and such as look small when they are cut to 32 bits.
var far = []int{math.MinInt, -1 << 32, 1 << 32, 1<<32 + 1, math.MaxInt}

// chance hands out numbers below a bound, always the same ones.
type chance uint64

func (c *chance) next(below int) int {
	*c = *c*6364136223846793005 + 1442695040888963407
	return int(uint64(*c)>>33) % below
}

// number is a whole number of any size: small, close to 2^32, or far off.
func (c *chance) number() int {
	wide := c.next(1<<31)<<33 | c.next(1<<31)<<2 | c.next(4)
	switch c.next(6) {
	case 0:
		return c.next(9) - 3
	case 1:
		return 1<<32 + c.next(9) - 4
	case 2:
		return -1<<32 + c.next(9) - 4
	case 3:
		return -wide
	}
	return wide >> c.next(63)
}

// numbers is up to so many whole numbers of any size.
func (c *chance) numbers(most int) []int {
	l := make([]int, c.next(most+1))
	for i := range l {
		l[i] = c.number()
	}
	return l
}

// row is so many numbers in an order by chance.
func (c *chance) row(count int) []int {
	l := make([]int, count)
	for i := range l {
		j := c.next(i + 1)
		l[i], l[j] = l[j], i
	}
	return l
}

// some is one or more of a row, rising.
func (c *chance) some(row []int) []int {
	l := slices.Clone(row[:1])
	for _, n := range row[1:] {
		if c.next(3) == 0 {
			l = append(l, n)
		}
	}
	slices.Sort(l)
	return l
}

// parts gives each part of a task a way and an argument by chance: most take others, so that their order counts.
func (c *chance) parts(d api.Desc) {
	for i := range d.Parts {
		p := &d.Parts[i]
		p.Op, p.Arg = api.OpMix, c.next(9)
		if c.next(2) == 0 {
			p.Op = api.Op(c.next(6))
		}
		if p.Op == api.OpConst {
			p.Arg = api.MaxArg - c.next(1<<31)
		}
	}
}

// task is a task of parts by their works, with up to so many of each other thing as a bound is; if it is tame all that waits stands, in one row of the parts, behind what it waits for.
func (c *chance) task(works []int, most int, tame bool) api.Desc {
	d, count := of(works, nil), len(works)
	c.parts(d)
	if count < 2 {
		return d
	}
	row := c.row(count)
	shuffle := func() {
		if !tame {
			row = c.row(count)
		}
	}
	two := func() (int, int) {
		shuffle()
		b := 1 + c.next(count-1)
		return row[c.next(b)], row[b]
	}
	for range c.next(1 + min(most, api.MaxJoins)) {
		a, b := two()
		if e := (api.Edge{From: a, To: b}); !slices.Contains(d.Edges, e) {
			d.Edges = append(d.Edges, e)
		}
	}
	for range c.next(1 + min(most, api.MaxFutures)) {
		maker, user := two()
		at := 1 + c.next(works[user])
		isTouched := slices.ContainsFunc(d.Futures, func(f api.Future) bool { return f.User == user && f.At == at })
		if at < works[user] && !isTouched {
			d.Futures = append(d.Futures, api.Future{Maker: maker, User: user, At: at})
		}
	}
	for range c.next(1 + min(most, api.MaxBarriers)) {
		shuffle()
		cut := 1 + c.next(count-1)
		d.Barriers = append(d.Barriers, api.Barrier{In: c.some(row[:cut]), Out: c.some(row[cut:])})
	}
	return d
}

// tasks hands out so many tasks by chance: their parts, at most so many, have works up to a bound.
func tasks(many, parts, work int, tame bool, give func(c *chance, d api.Desc)) {
	c := chance(8)
	for range many {
		works := make([]int, 1+c.next(parts))
		for j := range works {
			works[j] = 1 + c.next(work)
		}
		give(&c, c.task(works, 1+c.next(api.MaxJoins), tame))
	}
}

// asValue is a number as a value, reckoned with numbers of any size.
func asValue(n *big.Int) int {
	return int(new(big.Int).Mod(n, big.NewInt(1<<32)).Int64())
}

// opByWords is what comes of a part by the chapter's words, brought down to a value at the end only.
func opByWords(p api.Part, input, vals []int) int {
	whole := big.NewInt(0)
	switch p.Op {
	case api.OpInput:
		if p.Arg >= 0 && p.Arg < len(input) {
			whole.SetInt64(int64(input[p.Arg]))
		}
	case api.OpConst:
		whole.SetInt64(int64(p.Arg))
	case api.OpSum:
		for _, v := range vals {
			whole.Add(whole, big.NewInt(int64(v)))
		}
	case api.OpProd:
		whole.SetInt64(1)
		for _, v := range vals {
			whole.Mul(whole, big.NewInt(int64(v)))
		}
	case api.OpMax:
		for _, v := range vals {
			whole.SetInt64(int64(max(asValue(big.NewInt(int64(v))), int(whole.Int64()))))
		}
	case api.OpMix:
		whole.SetInt64(7)
		for _, v := range vals {
			whole.Mul(whole, big.NewInt(31))
			whole.Add(whole, big.NewInt(int64(v)))
		}
	}
	return asValue(whole)
}

// feedsByWords is the parts whose values a part takes: those of its edges, then the makers of its futures, by rising At.
func feedsByWords(d api.Desc, user int) []int {
	var l []int
	for _, e := range d.Edges {
		if e.To == user {
			l = append(l, e.From)
		}
	}
	for at := 1; at < d.Parts[user].Work; at++ {
		for _, f := range d.Futures {
			if f.User == user && f.At == at {
				l = append(l, f.Maker)
			}
		}
	}
	return l
}

// valsByWords is what a task in which no way leads round comes to, with no regard to nodes: each part's value comes of those that it takes.
func valsByWords(d api.Desc, input []int) []int {
	vals, known := make([]int, len(d.Parts)), make([]bool, len(d.Parts))
	var value func(part int) int
	value = func(part int) int {
		if !known[part] {
			var taken []int
			for _, maker := range feedsByWords(d, part) {
				taken = append(taken, value(maker))
			}
			vals[part], known[part] = opByWords(d.Parts[part], input, taken), true
		}
		return vals[part]
	}
	for part := range d.Parts {
		value(part)
	}
	return vals
}

// waitsFor is whether a node waits for one that isn't done, by the chapter's words.
func waitsFor(l api.Low, done []bool, node int) bool {
	return slices.ContainsFunc(l.Dag.Edges, func(e api.Edge) bool { return e.To == node && !done[e.From] })
}

// readyByWords is the nodes that are ready, by the chapter's words.
func readyByWords(l api.Low, done []bool) []int {
	var ready []int
	for n := range l.Pieces {
		if !done[n] && !waitsFor(l, done, n) {
			ready = append(ready, n)
		}
	}
	return ready
}

// mayBe is whether nodes may be done, by the chapter's words.
func mayBe(l api.Low, done []bool) bool {
	for n := range done {
		if done[n] && waitsFor(l, done, n) {
			return false
		}
	}
	return true
}

// finishByWords is what Finish has to answer of a memory that may be.
func finishByWords(d api.Desc, l api.Low, input []int, m api.Memory, node int) (api.Memory, api.Errno) {
	switch {
	case node < 0 || node >= len(l.Pieces):
		return api.Memory{}, api.ErrEvalNode
	case m.Done[node]:
		return api.Memory{}, api.ErrEvalDone
	case waitsFor(l, m.Done, node):
		return api.Memory{}, api.ErrEvalWait
	}
	m = copiedMemory(m)
	m.Done[node] = true
	part := l.Pieces[node].Part
	isLast := part >= 0 && !slices.Contains(l.Pieces, api.Piece{Part: part, Step: l.Pieces[node].Step + 1})
	if isLast {
		var taken []int
		for _, maker := range feedsByWords(d, part) {
			taken = append(taken, m.Vals[maker])
		}
		m.Vals[part] = opByWords(d.Parts[part], input, taken)
	}
	return m, api.OK
}

// P8.1: the chapter's example.
func TestExample(t *testing.T) {
	if n := Op(part(api.OpMix, 0), nil, []int{1, 2}); n != 6760 {
		t.Error(n)
	}
	if n := Op(part(api.OpMix, 0), nil, []int{1}); n != 218 {
		t.Error(n)
	}
}

// P8.1: each Op of no value, of one, and of several; values that go round, MaxValue itself, and numbers below 0.
func TestOp(t *testing.T) {
	const most = api.MaxValue
	for i, x := range []struct {
		op   api.Op
		vals []int
		want int
	}{
		{api.OpSum, nil, 0}, {api.OpSum, []int{}, 0}, {api.OpSum, []int{5}, 5}, {api.OpSum, []int{1, 2, 3}, 6}, {api.OpSum, []int{0, 0}, 0},
		{api.OpSum, []int{most}, most}, {api.OpSum, []int{most, 1}, 0}, {api.OpSum, []int{most - 1, 1}, most}, {api.OpSum, []int{most, most}, most - 1}, {api.OpSum, []int{1 << 31, 1 << 31, 9}, 9},
		{api.OpSum, []int{-1}, most}, {api.OpSum, []int{-1, 1}, 0}, {api.OpSum, []int{1 << 32}, 0}, {api.OpSum, []int{-1 << 32, 4}, 4}, {api.OpSum, []int{-3, -4}, most - 6},
		{api.OpSum, []int{math.MinInt}, 0}, {api.OpSum, []int{math.MaxInt}, most}, {api.OpSum, []int{math.MaxInt, math.MaxInt}, most - 1}, {api.OpSum, []int{math.MinInt, math.MinInt, 3}, 3},
		{api.OpProd, nil, 1}, {api.OpProd, []int{}, 1}, {api.OpProd, []int{5}, 5}, {api.OpProd, []int{2, 3, 7}, 42}, {api.OpProd, []int{9, 0, 4}, 0}, {api.OpProd, []int{1, 1}, 1},
		{api.OpProd, []int{most}, most}, {api.OpProd, []int{most, most}, 1}, {api.OpProd, []int{1 << 16, 1 << 16}, 0}, {api.OpProd, []int{1<<16 + 1, 1<<16 + 1}, 131073}, {api.OpProd, []int{1 << 31, 3}, 1 << 31},
		{api.OpProd, []int{-1}, most}, {api.OpProd, []int{-1, -1}, 1}, {api.OpProd, []int{-2, 3}, most - 5}, {api.OpProd, []int{1<<32 + 2, 4}, 8}, {api.OpProd, []int{math.MaxInt, math.MaxInt}, 1}, {api.OpProd, []int{math.MinInt, 5}, 0},
		{api.OpMax, nil, 0}, {api.OpMax, []int{}, 0}, {api.OpMax, []int{5}, 5}, {api.OpMax, []int{0}, 0}, {api.OpMax, []int{4, 9, 2}, 9}, {api.OpMax, []int{9, 4, 2}, 9}, {api.OpMax, []int{2, 4, 9}, 9}, {api.OpMax, []int{9, 9}, 9},
		{api.OpMax, []int{most, 3}, most}, {api.OpMax, []int{3, most}, most}, {api.OpMax, []int{-1, 3}, most}, {api.OpMax, []int{3, -7, most - 9}, most - 6}, {api.OpMax, []int{1 << 32, 3}, 3}, {api.OpMax, []int{3, 1<<32 + 1}, 3}, {api.OpMax, []int{3, math.MaxInt}, most}, {api.OpMax, []int{3, math.MinInt}, 3}, {api.OpMax, []int{-1 << 32}, 0},
		{api.OpMix, nil, 7}, {api.OpMix, []int{}, 7}, {api.OpMix, []int{0}, 217}, {api.OpMix, []int{5}, 222}, {api.OpMix, []int{2, 1}, 6790}, {api.OpMix, []int{0, 0, 0}, 208537}, {api.OpMix, []int{1, 2, 3}, 209563},
		{api.OpMix, []int{most}, 216}, {api.OpMix, []int{-1}, 216}, {api.OpMix, []int{-217}, 0}, {api.OpMix, []int{-218}, most}, {api.OpMix, []int{most - 217}, most}, {api.OpMix, []int{-218, 30}, most}, {api.OpMix, []int{1 << 32, 1<<32 + 1}, 6728},
		{api.OpMix, alike(6, 0), 7 * 31 * 31 * 31 * 31 * 31 * 31 % (1 << 32)}, {api.OpMix, alike(7, 0), 7 * 31 * 31 * 31 * 31 * 31 * 31 * 31 % (1 << 32)},
	} {
		// Neither the argument, nor the input, nor the work counts here.
		for j, p := range []api.Part{{Op: x.op}, {Op: x.op, Arg: 1, Work: 9}, {Op: x.op, Arg: math.MinInt, Work: -1}} {
			if n := Op(p, []int{77, 78}[:j], x.vals); n != x.want {
				t.Error(i, j, n, x.want)
			}
		}
	}
}

// P8.1: OpConst, of each argument; values, an input and the work don't count.
func TestOpConst(t *testing.T) {
	for i, x := range []struct{ arg, want int }{
		{0, 0}, {1, 1}, {77, 77}, {api.MaxArg, 1<<31 - 1}, {1 << 31, 1 << 31}, {api.MaxValue, api.MaxValue}, {1 << 32, 0}, {1<<32 + 5, 5},
		{-1, api.MaxValue}, {-1 << 31, 1 << 31}, {-1 << 32, 0}, {-1<<32 - 1, api.MaxValue}, {math.MaxInt, api.MaxValue}, {math.MinInt, 0}, {math.MinInt + 9, 9},
	} {
		for j, vals := range [][]int{nil, {5}, {5, 6}} {
			if n := Op(api.Part{Op: api.OpConst, Arg: x.arg, Work: j}, []int{1, 2}, vals); n != x.want {
				t.Error(i, j, n)
			}
		}
	}
}

// P8.1: OpInput, of each place of an input, of places below 0 and behind the last, and of no input at all.
func TestOpInput(t *testing.T) {
	input := []int{5, -1, 0, api.MaxValue, 1 << 32, math.MinInt, math.MaxInt, 8}
	want := []int{5, api.MaxValue, 0, api.MaxValue, 0, 0, api.MaxValue, 8}
	for place := range input {
		for j, vals := range [][]int{nil, {5}, {5, 6}} {
			if n := Op(api.Part{Op: api.OpInput, Arg: place, Work: j}, input, vals); n != want[place] {
				t.Error(place, n)
			}
		}
	}
	for _, place := range append(far, -1, -8, 8, 9, 1<<31) {
		for j, vals := range [][]int{nil, {5}, {5, 6}} {
			if n := Op(api.Part{Op: api.OpInput, Arg: place, Work: j}, input, vals); n != 0 {
				t.Error(place, n)
			}
		}
	}
	for _, place := range append(far, -1, 0, 1, 2) {
		if Op(part(api.OpInput, place), nil, []int{3}) != 0 || Op(part(api.OpInput, place), []int{}, nil) != 0 {
			t.Error(place, "no input at all")
		}
	}
	one := []int{4}
	if Op(part(api.OpInput, 0), one, nil) != 4 || Op(part(api.OpInput, 1), one, nil) != 0 || Op(part(api.OpInput, -1), one, nil) != 0 {
		t.Error("an input of one number")
	}
	// what lies behind an input's end is not of it
	if Op(part(api.OpInput, 2), input[:2], nil) != 0 || Op(part(api.OpInput, 3), input[:2], nil) != 0 {
		t.Error("spare room")
	}
	long := make([]int, 5000)
	for i := range long {
		long[i] = 3 * i
	}
	if Op(part(api.OpInput, 4999), long, nil) != 14997 || Op(part(api.OpInput, 64), long, nil) != 192 || Op(part(api.OpInput, 5000), long, nil) != 0 {
		t.Error("an input of more numbers than a kernel takes")
	}
}

// P8.1: of no such Op: 0, whatever else there is.
func TestOpNone(t *testing.T) {
	for _, op := range append(far, -1, -2, 6, 7, 8, 1<<32+5, -1<<32+3) {
		for arg := range 3 {
			if n := Op(api.Part{Op: api.Op(op), Arg: arg, Work: 4}, []int{5, 6}, []int{7, 8}); n != 0 {
				t.Error(op, arg, n)
			}
			if n := Op(api.Part{Op: api.Op(op), Arg: arg}, nil, nil); n != 0 {
				t.Error(op, arg, n)
			}
		}
	}
}

// P8.1: Op, of many numbers of any size, held against the chapter's words.
func TestOpByWords(t *testing.T) {
	c := chance(1)
	for range 20000 {
		p := api.Part{Op: api.Op(c.next(8) - 1), Arg: c.number(), Work: c.number()}
		if c.next(2) == 0 {
			p.Arg = c.next(5) - 1
		}
		input, vals := c.numbers(4), c.numbers(6)
		n := Op(p, input, vals)
		if want := opByWords(p, input, vals); n != want {
			t.Fatal(p, input, vals, n, want)
		}
		if n < 0 || n > api.MaxValue {
			t.Fatal(p, input, vals, n, "is no value")
		}
	}
	many := alike(100000, -1)
	for op, want := range []int{api.MaxValue, 99999, 1<<32 - 100000, 1, api.MaxValue} {
		if n := Op(part(api.Op(op), 99999), many, many); n != want {
			t.Error(op, n, want)
		}
	}
}

// P8.2: New: of each node that it isn't done, of each part the value 0.
func TestNew(t *testing.T) {
	for i, x := range []struct {
		d            api.Desc
		nodes, parts int
	}{
		{of([]int{1}, nil), 1, 1},
		{of([]int{100}, nil), 1, 1},
		{of([]int{2, 5}, func(d *api.Desc) { d.Futures = futures(0, 1, 3) }), 3, 2},
		{of([]int{2, 5}, func(d *api.Desc) { d.Barriers = []api.Barrier{{In: []int{0}, Out: []int{1}}} }), 3, 2},
		{rich(), 11, 5},
		{full(15), 36, 16},
		{full(2, 3, 15), 36, 16},
	} {
		m, e := New(x.d)
		if e != api.OK || !equal(m, api.Memory{Done: make([]bool, x.nodes), Vals: make([]int, x.parts)}) {
			t.Error(i, m, e)
		}
		if e := Check(x.d, m); e != api.OK {
			t.Error(i, e)
		}
	}
}

// P8.2: Check and Ready, of each choice of nodes that are done, of tasks of up to 11 nodes: it may be just if whatever waits for a node that isn't done isn't done either.
func TestCheckReady(t *testing.T) {
	right, wrong := 0, 0
	hold := func(d api.Desc) {
		l := lowered(t, d)
		done := make([]bool, len(l.Pieces))
		for bits := range 1 << len(done) {
			for n := range done {
				done[n] = bits>>n&1 == 1
			}
			m, want, ready := api.Memory{Done: done, Vals: make([]int, len(d.Parts))}, api.OK, readyByWords(l, done)
			if !mayBe(l, done) {
				want, ready = api.ErrEvalForm, nil
				wrong++
			} else {
				right++
			}
			if e := Check(d, m); e != want {
				t.Fatal(d, done, e, want)
			}
			if r := Ready(d, m); !slices.Equal(r, ready) {
				t.Fatal(d, done, r, ready)
			}
		}
	}
	hold(of([]int{1}, nil))
	hold(of([]int{3, 2}, nil))
	hold(rich())
	tasks(150, 5, 5, true, func(c *chance, d api.Desc) {
		if len(d.Parts)+len(d.Futures)+len(d.Barriers) <= 9 {
			hold(d)
		}
	})
	if right < 1000 || wrong < 1000 {
		t.Error("too few of a kind", right, wrong)
	}
}

// P8.2: Check and Ready, of memories with too few or too many numbers, in Done, in Vals and in both, and of any values.
func TestForm(t *testing.T) {
	for i, d := range []api.Desc{of([]int{1}, nil), of([]int{2, 5}, func(d *api.Desc) { d.Futures = futures(0, 1, 3) }), rich(), full(15)} {
		nodes, parts := len(lowered(t, d).Pieces), len(d.Parts)
		for done := range nodes + 3 {
			for vals := range parts + 3 {
				m, want := api.Memory{Done: make([]bool, done), Vals: make([]int, vals)}, api.ErrEvalForm
				if done == nodes && vals == parts {
					want = api.OK
				}
				if e := Check(d, m); e != want || (len(Ready(d, m)) > 0) != (want == api.OK) {
					t.Error(i, done, vals, e)
				}
				if after, e := Finish(d, nil, m, 0); e != want || want != api.OK && !isNothing(after) {
					t.Error(i, done, vals, e)
				}
			}
		}
		for _, m := range []api.Memory{{}, {Done: make([]bool, nodes)}, {Vals: make([]int, parts)}, {Done: make([]bool, parts), Vals: make([]int, nodes+1)}, {Done: make([]bool, 100000), Vals: make([]int, 100000)}} {
			if e := Check(d, m); e != api.ErrEvalForm || len(Ready(d, m)) != 0 {
				t.Error(i, len(m.Done), len(m.Vals), e)
			}
		}
		for _, v := range append(far, -1, api.MaxValue) {
			m := api.Memory{Done: make([]bool, nodes), Vals: alike(parts, v)}
			if e := Check(d, m); e != api.OK || len(Ready(d, m)) == 0 {
				t.Error(i, v, e)
			}
		}
		all := api.Memory{Done: slices.Repeat([]bool{true}, nodes), Vals: make([]int, parts)}
		if e := Check(d, all); e != api.OK || len(Ready(d, all)) != 0 {
			t.Error(i, "all are done", e)
		}
		all.Done = append(all.Done, true)
		if Check(d, all) != api.ErrEvalForm {
			t.Error(i, "one more is done")
		}
	}
}

// spoilt is a way to make rich wrong, and its error.
type spoilt struct {
	e     api.Errno
	spoil func(d *api.Desc)
}

// faults are ways to make rich wrong, of each of chapter 7's errors, by rising errors.
func faults() []spoilt {
	return []spoilt{
		{api.ErrDescMany, func(d *api.Desc) { d.Parts = append(d.Parts, slices.Repeat([]api.Part{{Work: 1}}, 12)...) }},
		{api.ErrDescMany, func(d *api.Desc) { d.Edges = append(d.Edges, make([]api.Edge, 46)...) }},
		{api.ErrDescMany, func(d *api.Desc) { d.Futures = append(d.Futures, make([]api.Future, 13)...) }},
		{api.ErrDescMany, func(d *api.Desc) { d.Barriers = append(d.Barriers, make([]api.Barrier, 3)...) }},
		{api.ErrDescTime, func(d *api.Desc) { d.Period = 65 }},
		{api.ErrDescTime, func(d *api.Desc) { d.Deadline = 65 }},
		{api.ErrDescPart, func(d *api.Desc) { d.Parts[4].Op = 6 }},
		{api.ErrDescPart, func(d *api.Desc) { d.Parts[1].Arg = 1 << 31 }},
		{api.ErrDescPart, func(d *api.Desc) { d.Parts[0].Work = 0 }},
		{api.ErrDescEdge, func(d *api.Desc) { d.Edges[0].To = 5 }},
		{api.ErrDescEdge, func(d *api.Desc) { d.Edges[2].From = -1 }},
		{api.ErrDescEdge, func(d *api.Desc) { d.Edges[2] = d.Edges[1] }},
		{api.ErrDescFuture, func(d *api.Desc) { d.Futures[2].Maker = 5 }},
		{api.ErrDescFuture, func(d *api.Desc) { d.Futures[1].At = 20 }},
		{api.ErrDescBarrier, func(d *api.Desc) { d.Barriers[0].In = nil }},
		{api.ErrDescBarrier, func(d *api.Desc) { d.Barriers[0].Out[1] = 5 }},
		{api.ErrLowRound, func(d *api.Desc) { d.Edges = append(d.Edges, api.Edge{From: 4, To: 1}) }},
		{api.ErrLowRound, func(d *api.Desc) { d.Futures = append(d.Futures, api.Future{Maker: 3, User: 2, At: 1}) }},
		{api.ErrLowRound, func(d *api.Desc) { d.Barriers = append(d.Barriers, api.Barrier{In: []int{1, 4}, Out: []int{0}}) }},
	}
}

// holdWrong holds what all calls answer of a task that may not be lowered, with any memory, against its error.
func holdWrong(t *testing.T, d api.Desc, want api.Errno) {
	t.Helper()
	if m, e := New(d); e != want || !isNothing(m) {
		t.Error(want, "New", m, e)
	}
	if l, e := Run(d, richInput()); e != want || len(l) != 0 {
		t.Error(want, "Run", l, e)
	}
	for i, m := range []api.Memory{{}, {Done: make([]bool, 11), Vals: make([]int, 5)}, {Done: []bool{10: true}, Vals: make([]int, 5)}, {Done: make([]bool, 11)}, {Vals: make([]int, 6)}} {
		if e := Check(d, m); e != want || len(Ready(d, m)) != 0 {
			t.Error(want, i, "Check", e)
		}
		for _, node := range append(far, -1, 0, 4, 10, 11) {
			if after, e := Finish(d, richInput(), m, node); e != want || !isNothing(after) {
				t.Error(want, i, node, "Finish", after, e)
			}
		}
	}
}

// P8.2, P8.3, P8.4: each of chapter 7's errors, alone, and with each other one, whatever else is wrong: the first one is told.
func TestWrong(t *testing.T) {
	for i, first := range faults() {
		d := rich()
		first.spoil(&d)
		holdWrong(t, d, first.e)
		for _, other := range faults()[i+1:] {
			d := rich()
			first.spoil(&d)
			other.spoil(&d)
			holdWrong(t, d, first.e)
		}
	}
	holdWrong(t, api.Desc{}, api.ErrDescMany)
	holdWrong(t, of(nil, nil), api.ErrDescMany)
	for _, n := range far {
		for i, x := range []spoilt{
			{api.ErrDescTime, func(d *api.Desc) { d.Period = n }},
			{api.ErrDescTime, func(d *api.Desc) { d.Deadline = n }},
			{api.ErrDescPart, func(d *api.Desc) { d.Parts[4].Op = api.Op(n) }},
			{api.ErrDescPart, func(d *api.Desc) { d.Parts[4].Arg = n }},
			{api.ErrDescPart, func(d *api.Desc) { d.Parts[4].Work = n }},
			{api.ErrDescEdge, func(d *api.Desc) { d.Edges[0].From = n }},
			{api.ErrDescFuture, func(d *api.Desc) { d.Futures[0].Maker = n }},
			{api.ErrDescFuture, func(d *api.Desc) { d.Futures[0].At = n }},
			{api.ErrDescBarrier, func(d *api.Desc) { d.Barriers[0].Out[1] = n }},
		} {
			d := rich()
			x.spoil(&d)
			if e := Check(d, api.Memory{}); e != x.e {
				t.Error(n, i, e)
			}
			holdWrong(t, d, x.e)
		}
	}
}

// P8.2, P8.3: Ready and Finish, of rich, step by step: what is ready at the beginning, in the middle and at the end; a part's value comes with its last step, and nothing comes with others, or with a barrier.
func TestSteps(t *testing.T) {
	d := rich()
	m := fresh(t, d)
	want := copiedMemory(m)
	if r := Ready(d, m); !slices.Equal(r, []int{0, 1}) {
		t.Error("at the beginning", r)
	}
	for i, x := range richWalk() {
		m = finished(t, d, richInput(), m, x.node)
		want.Done[x.node] = true
		if x.part >= 0 {
			want.Vals[x.part] = richVals()[x.part]
		}
		if !equal(m, want) || Check(d, m) != api.OK {
			t.Fatal(i, x, m, want)
		}
		if r := Ready(d, m); !slices.Equal(r, x.ready) {
			t.Fatal(i, x, r)
		}
	}
	if !slices.Equal(m.Vals, richVals()) || slices.Contains(m.Done, false) {
		t.Error("at the end", m)
	}
	for n := range m.Done {
		if after, e := Finish(d, richInput(), m, n); e != api.ErrEvalDone || !isNothing(after) {
			t.Error("all are done", n, e)
		}
	}
}

// P8.3: Finish, of a task of one part alone, and of one touched at each place at which it may be: but the last step gives it its value.
func TestLastStep(t *testing.T) {
	for op := api.OpInput; op <= api.OpMix; op++ {
		d := of([]int{100}, func(d *api.Desc) { d.Parts[0] = api.Part{Op: op, Arg: 1, Work: 100} })
		m := fresh(t, d)
		if !slices.Equal(Ready(d, m), []int{0}) {
			t.Error(op, "a part alone isn't ready")
		}
		m = finished(t, d, []int{4, 6}, m, 0)
		if want := opByWords(d.Parts[0], []int{4, 6}, nil); !equal(m, api.Memory{Done: []bool{true}, Vals: []int{want}}) || len(Ready(d, m)) != 0 {
			t.Error(op, m, want)
		}
	}
	d := of([]int{17, 1}, func(d *api.Desc) {
		d.Parts[0].Op, d.Parts[1] = api.OpSum, part(api.OpConst, 10)
		for at := 16; at >= 1; at-- {
			d.Futures = append(d.Futures, api.Future{Maker: 1, User: 0, At: at})
		}
	})
	m := finished(t, d, nil, fresh(t, d), 0, 17)
	for step := 1; step <= 16; step++ {
		if m.Vals[0] != 0 || !slices.Equal(Ready(d, m), []int{step}) {
			t.Fatal(step, m, Ready(d, m))
		}
		m = finished(t, d, nil, m, step)
	}
	if !slices.Equal(m.Vals, []int{160, 10}) || slices.Contains(m.Done, false) {
		t.Error(m)
	}
}

// P8.3: the values of a part's Feeds are taken in order: by its edges, as they stand, then by its touches, as they rise; the input is that of the call.
func TestFeeds(t *testing.T) {
	d := of([]int{1, 1, 1, 1, 9}, func(d *api.Desc) {
		for i := range 4 {
			d.Parts[i] = part(api.OpInput, i)
		}
		d.Parts[4].Op = api.OpMix
		d.Edges, d.Futures = edges(3, 4, 1, 4), futures(0, 4, 8, 2, 4, 1, 3, 4, 5)
	})
	mix := func(vals ...int) int { return opByWords(part(api.OpMix, 0), nil, vals) }
	m := finished(t, d, []int{10, 20, 30, 40}, fresh(t, d), 0, 1, 2, 3, 4, 5, 6, 7)
	if !slices.Equal(m.Vals, []int{10, 20, 30, 40, mix(40, 20, 30, 40, 10)}) {
		t.Error(m)
	}
	// another input with each node
	m = fresh(t, d)
	for n := range 8 {
		m = finished(t, d, []int{100 * n, 100 * n, 100 * n, 100 * n}, m, n)
	}
	if !slices.Equal(m.Vals, []int{0, 100, 200, 300, mix(300, 100, 200, 300, 0)}) {
		t.Error(m)
	}
	m = finished(t, d, nil, fresh(t, d), 0, 1, 2, 3, 4, 5, 6, 7)
	if !slices.Equal(m.Vals, []int{0, 0, 0, 0, mix(0, 0, 0, 0, 0)}) {
		t.Error("no input at all", m)
	}
}

// P8.3: Finish, of memories whose values no finishing gave: each is taken as a value, and those of other parts stay as they are.
func TestAnyVals(t *testing.T) {
	d := of([]int{1, 1, 2}, func(d *api.Desc) {
		d.Parts[2].Op = api.OpMix
		d.Edges, d.Futures = edges(1, 2), futures(0, 2, 1)
	})
	c := chance(2)
	for range 2000 {
		vals := []int{c.number(), c.number(), c.number()}
		m := finished(t, d, nil, api.Memory{Done: []bool{true, true, false, false}, Vals: vals}, 2)
		if !equal(m, api.Memory{Done: []bool{true, true, true, false}, Vals: vals}) {
			t.Fatal("the first step", vals, m)
		}
		want := opByWords(d.Parts[2], nil, []int{vals[1], vals[0]})
		m = finished(t, d, nil, m, 3)
		if !equal(m, api.Memory{Done: []bool{true, true, true, true}, Vals: []int{vals[0], vals[1], want}}) {
			t.Fatal("the last step", vals, m, want)
		}
		m = finished(t, d, []int{5}, api.Memory{Done: make([]bool, 4), Vals: vals}, 0)
		if !equal(m, api.Memory{Done: []bool{true, false, false, false}, Vals: []int{5, vals[1], vals[2]}}) {
			t.Fatal("the first part", vals, m)
		}
	}
}

// P8.3: which error Finish tells: Check's, of no such node, of one that is done, of one that waits; each alone, and several at once.
func TestFinishWrong(t *testing.T) {
	d := rich()
	m := finished(t, d, richInput(), fresh(t, d), 0, 2)
	form := copiedMemory(m)
	form.Done[8] = true
	short := copiedMemory(m)
	short.Vals = short.Vals[:4]
	for i, x := range []struct {
		m    api.Memory
		node int
		want api.Errno
	}{
		{m, 0, api.ErrEvalDone}, {m, 2, api.ErrEvalDone},
		{m, 4, api.ErrEvalWait}, {m, 5, api.ErrEvalWait}, {m, 6, api.ErrEvalWait}, {m, 7, api.ErrEvalWait}, {m, 8, api.ErrEvalWait}, {m, 9, api.ErrEvalWait}, {m, 10, api.ErrEvalWait},
		{m, 1, api.OK}, {m, 3, api.OK},
		{m, -1, api.ErrEvalNode}, {m, -2, api.ErrEvalNode}, {m, 11, api.ErrEvalNode}, {m, 12, api.ErrEvalNode},
		// a memory that may not be, with a node that is done, that waits, that is ready, and that isn't there
		{form, 0, api.ErrEvalForm}, {form, 8, api.ErrEvalForm}, {form, 4, api.ErrEvalForm}, {form, 1, api.ErrEvalForm}, {form, -1, api.ErrEvalForm}, {form, 11, api.ErrEvalForm},
		{short, 0, api.ErrEvalForm}, {short, 4, api.ErrEvalForm}, {short, 1, api.ErrEvalForm}, {short, -1, api.ErrEvalForm}, {short, 11, api.ErrEvalForm},
		{api.Memory{}, 0, api.ErrEvalForm}, {api.Memory{}, -1, api.ErrEvalForm},
	} {
		if after, e := Finish(d, richInput(), x.m, x.node); e != x.want || e != api.OK && !isNothing(after) {
			t.Error(i, x.node, after, e)
		}
	}
	for _, node := range far {
		for i, x := range []struct {
			m    api.Memory
			want api.Errno
		}{{m, api.ErrEvalNode}, {form, api.ErrEvalForm}, {api.Memory{}, api.ErrEvalForm}} {
			if after, e := Finish(d, nil, x.m, node); e != x.want || !isNothing(after) {
				t.Error(i, node, after, e)
			}
		}
	}
}

// P8.3: Finish, of each node in each memory that may come of a task, held against the chapter's words.
func TestFinishByWords(t *testing.T) {
	hold := func(c *chance, d api.Desc) {
		l, input := lowered(t, d), c.numbers(4)
		m := fresh(t, d)
		for range l.Pieces {
			for n := -1; n <= len(l.Pieces); n++ {
				want, wantE := finishByWords(d, l, input, m, n)
				if after, e := Finish(d, input, m, n); e != wantE || !equal(after, want) {
					t.Fatal(d, m, n, after, e, want, wantE)
				}
			}
			ready := Ready(d, m)
			if !slices.Equal(ready, readyByWords(l, m.Done)) || len(ready) == 0 {
				t.Fatal(d, m, ready)
			}
			m = finished(t, d, input, m, ready[c.next(len(ready))])
		}
		if len(Ready(d, m)) != 0 || slices.Contains(m.Done, false) {
			t.Fatal("something is left", d, m)
		}
	}
	tasks(150, api.MaxParts, api.MaxPartWork, true, hold)
	tasks(400, 4, 9, true, hold)
	c := chance(3)
	hold(&c, rich())
	hold(&c, full(15))
}

// P8.4: Run, of tasks with edges, futures and barriers, whose values are reckoned by hand.
func TestRun(t *testing.T) {
	chain := of(alike(16, 2), func(d *api.Desc) {
		for i := range 15 {
			d.Parts[i+1] = api.Part{Op: api.OpSum, Work: 2}
			d.Edges = append(d.Edges, api.Edge{From: i, To: i + 1})
		}
		d.Parts[0] = api.Part{Op: api.OpConst, Arg: 6, Work: 2}
		d.Edges = append(d.Edges, edges(0, 15, 1, 15, 3, 15)...)
	})
	for i, x := range []struct {
		d     api.Desc
		input []int
		want  []int
	}{
		{of([]int{1}, nil), nil, []int{0}},
		{of([]int{1}, nil), []int{8}, []int{8}},
		{of([]int{1}, nil), []int{-8, 3}, []int{1<<32 - 8}},
		{of(alike(6, 1), nil), []int{4}, []int{4, 1, 0, 1, 0, 7}},
		// edges that stand otherwise than the parts
		{of(alike(3, 1), func(d *api.Desc) {
			d.Parts = []api.Part{part(api.OpMix, 0), part(api.OpConst, 1), part(api.OpConst, 2)}
			d.Edges = edges(2, 0, 1, 0)
		}), nil, []int{6790, 1, 2}},
		// a future's value, and one that goes round
		{of([]int{2, 5}, func(d *api.Desc) {
			d.Parts[0], d.Parts[1] = part(api.OpInput, 0), api.Part{Op: api.OpProd, Work: 5}
			d.Edges, d.Futures = edges(0, 1), futures(0, 1, 3)
		}), []int{api.MaxValue}, []int{api.MaxValue, 1}},
		// who waits at a barrier takes no value there
		{of([]int{2, 5, 3}, func(d *api.Desc) {
			d.Parts[0], d.Parts[1], d.Parts[2] = part(api.OpConst, 9), part(api.OpSum, 0), part(api.OpMix, 0)
			d.Barriers = []api.Barrier{{In: []int{0}, Out: []int{1, 2}}}
		}), nil, []int{9, 0, 7}},
		{chain, nil, append(alike(15, 6), 24)},
		{rich(), richInput(), richVals()},
	} {
		if vals, e := Run(x.d, x.input); e != api.OK || !slices.Equal(vals, x.want) {
			t.Error(i, vals, e, x.want)
		}
	}
	if vals, e := Run(rich(), nil); e != api.OK || vals[0] != 0 || vals[1] != 3 || vals[2] != (7*31*31)*31+3 {
		t.Error("no input at all", vals, e)
	}
}

// P8.4: Run, of many tasks, held against the chapter's words, and against all nodes finished in chapter 4's Order.
func TestRunByWords(t *testing.T) {
	hold := func(c *chance, d api.Desc) {
		input := c.numbers(9)
		vals, e := Run(d, input)
		if want := valsByWords(d, input); e != api.OK || !slices.Equal(vals, want) {
			t.Fatal(d, input, vals, e, want)
		}
		m := finished(t, d, input, fresh(t, d), dag.Order(lowered(t, d).Dag)...)
		if !slices.Equal(vals, m.Vals) || slices.Contains(m.Done, false) {
			t.Fatal(d, input, vals, m)
		}
	}
	tasks(1500, api.MaxParts, api.MaxPartWork, true, hold)
	tasks(1500, 4, 9, true, hold)
	c := chance(4)
	for _, d := range []api.Desc{rich(), full(15), full(2, 3, 15)} {
		hold(&c, d)
	}
	round := 0
	tasks(1500, 6, 9, false, func(c *chance, d api.Desc) {
		if _, e := lower.Lower(d); e == api.OK {
			hold(c, d)
			return
		}
		round++
		holdWrong(t, d, api.ErrLowRound)
	})
	if round < 300 {
		t.Error("too few that lead round", round)
	}
}

// endings hands out the memory at each end to which a task comes, in whichever order its nodes are finished: memories that were seen are not gone on from again.
func endings(t *testing.T, d api.Desc, input []int, give func(m api.Memory)) {
	seen := map[int]api.Memory{}
	var walk func(m api.Memory, bits int)
	walk = func(m api.Memory, bits int) {
		if other, is := seen[bits]; is {
			if !equal(m, other) {
				t.Fatal("two orders, two memories", d, m, other)
			}
			return
		}
		seen[bits] = m
		ready := Ready(d, m)
		if len(ready) == 0 {
			give(m)
		}
		for _, n := range ready {
			walk(finished(t, d, input, m, n), bits|1<<n)
		}
	}
	walk(fresh(t, d), 0)
}

// P8.5: in whichever order nodes are finished, the values are the same in the end: all orders of small tasks, and many of great ones.
func TestOrders(t *testing.T) {
	all := func(c *chance, d api.Desc) {
		input, times := c.numbers(4), 0
		want := valsByWords(d, input)
		endings(t, d, input, func(m api.Memory) {
			times++
			if !slices.Equal(m.Vals, want) || slices.Contains(m.Done, false) {
				t.Fatal(d, m, want)
			}
		})
		if vals, e := Run(d, input); times != 1 || e != api.OK || !slices.Equal(vals, want) {
			t.Fatal(d, times, vals, e)
		}
	}
	c := chance(5)
	all(&c, rich())
	all(&c, of(alike(8, 1), nil))
	tasks(150, 4, 4, true, all)
	some := func(c *chance, d api.Desc) {
		input := c.numbers(4)
		vals, _ := Run(d, input)
		for _, choose := range []func(ready []int) int{
			func(ready []int) int { return ready[0] },
			func(ready []int) int { return ready[len(ready)-1] },
			func(ready []int) int { return ready[c.next(len(ready))] },
		} {
			m := fresh(t, d)
			for ready := Ready(d, m); len(ready) > 0; ready = Ready(d, m) {
				m = finished(t, d, input, m, choose(ready))
			}
			if !slices.Equal(m.Vals, vals) || slices.Contains(m.Done, false) {
				t.Fatal(d, m, vals)
			}
		}
	}
	some(&c, full(15))
	some(&c, full(2, 3, 15))
	tasks(150, api.MaxParts, api.MaxPartWork, true, some)
}

// P8.2: Same, of a memory and itself, and of such as differ in one thing alone, at each place.
func TestSame(t *testing.T) {
	d := rich()
	half := finished(t, d, richInput(), fresh(t, d), 0, 2, 1, 3, 4)
	for i, m := range []api.Memory{{}, fresh(t, of([]int{1}, nil)), fresh(t, d), half, fresh(t, full(15)), {Done: []bool{true}}, {Vals: []int{7}}, {Done: []bool{true, false}, Vals: []int{1, -2, 3}}} {
		if !Same(m, m) || !Same(m, copiedMemory(m)) {
			t.Error(i, "itself")
		}
		other := copiedMemory(m)
		for j := range other.Done {
			other.Done[j] = !other.Done[j]
			if Same(m, other) || Same(other, m) {
				t.Error(i, j, "Done")
			}
			other.Done[j] = !other.Done[j]
		}
		for j := range other.Vals {
			for _, by := range []int{1, -1, 1 << 32} {
				other.Vals[j] += by
				if Same(m, other) || Same(other, m) {
					t.Error(i, j, by, "Vals")
				}
				other.Vals[j] -= by
			}
		}
		if !Same(m, other) {
			t.Error(i, "changed back")
		}
	}
}

// P8.2: Same, of memories that differ in how many there are of a thing, or in their order, and of nil and empty.
func TestSameRows(t *testing.T) {
	d := rich()
	begin := finished(t, d, richInput(), fresh(t, d), 0, 2, 1, 3, 4)
	for i, change := range []func(m *api.Memory){
		func(m *api.Memory) { m.Done = m.Done[:10] },
		func(m *api.Memory) { m.Done = append(m.Done, false) },
		func(m *api.Memory) { m.Done = m.Done[1:] },
		func(m *api.Memory) { m.Done = nil },
		func(m *api.Memory) { m.Vals = m.Vals[:4] },
		func(m *api.Memory) { m.Vals = append(m.Vals, 0) },
		func(m *api.Memory) { m.Vals = nil },
		func(m *api.Memory) { slices.Reverse(m.Done) },
		func(m *api.Memory) { slices.Reverse(m.Vals) },
		func(m *api.Memory) { m.Vals[0], m.Vals[1] = m.Vals[1], m.Vals[0] },
	} {
		m := copiedMemory(begin)
		change(&m)
		if Same(m, begin) || Same(begin, m) {
			t.Error(i)
		}
	}
	empty := api.Memory{Done: []bool{}, Vals: []int{}}
	if !Same(api.Memory{}, empty) || !Same(empty, api.Memory{}) || Same(empty, begin) || !Same(api.Memory{Vals: []int{3}}, api.Memory{Done: []bool{}, Vals: []int{3}}) || !Same(api.Memory{Done: []bool{true}}, api.Memory{Done: []bool{true}, Vals: []int{}}) {
		t.Error("nil and empty")
	}
}

// longer is a task whose rows have so much of their spare room more.
func longer(d api.Desc, by int) api.Desc {
	d.Parts, d.Edges, d.Futures, d.Barriers = d.Parts[:5+by], d.Edges[:3+by], d.Futures[:4+by], d.Barriers[:2+by]
	d.Barriers[0].In, d.Barriers[0].Out = d.Barriers[0].In[:2+by], d.Barriers[0].Out[:2+by]
	return d
}

// P1: nothing that is handed in is changed, the spare room of its rows included.
func TestKept(t *testing.T) {
	d := rich()
	d.Parts, d.Edges, d.Futures, d.Barriers = append(d.Parts, api.Part{Work: 7}), append(d.Edges, api.Edge{From: 7}), append(d.Futures, api.Future{At: 7}), append(d.Barriers, api.Barrier{In: []int{7}})
	d.Barriers[0].In, d.Barriers[0].Out = append(d.Barriers[0].In, 7), append(d.Barriers[0].Out, 7)
	before := copied(d)
	d = longer(d, 0)
	done := []bool{true, true, true, true, false, false, false, false, false, false, false, true, false}
	vals := []int{5, 3, 0, -4, 0, 77, 78}
	input := []int{9, 5, 79}
	doneBefore, valsBefore, inputBefore := slices.Clone(done), slices.Clone(vals), slices.Clone(input)
	m := api.Memory{Done: done[:11], Vals: vals[:5]}
	after, e := Finish(d, input[:2], m, 4)
	if e != api.OK || !slices.Equal(after.Vals, []int{5, 3, richVals()[2], -4, 0}) {
		t.Error("something else is told", after, e)
	}
	for n := -1; n <= 11; n++ {
		Finish(d, input[:2], m, n)
	}
	if Check(d, m) != api.OK || !slices.Equal(Ready(d, m), []int{4, 9}) || !Same(m, copiedMemory(m)) {
		t.Error("something else is told of a memory")
	}
	if l, e := Run(d, input[:2]); e != api.OK || !slices.Equal(l, richVals()) {
		t.Error("something else is told by Run", l, e)
	}
	if !equal(fresh(t, d), api.Memory{Done: make([]bool, 11), Vals: make([]int, 5)}) {
		t.Error("something else is told by New")
	}
	if Op(part(api.OpMix, 0), input[:2], vals[:2]) != (7*31+5)*31+3 || Op(part(api.OpInput, 2), input[:2], vals[:2]) != 0 {
		t.Error("something else is told by Op")
	}
	if !slices.Equal(done, doneBefore) || !slices.Equal(vals, valsBefore) || !slices.Equal(input, inputBefore) {
		t.Error("a memory, or an input, is changed")
	}
	if !desc.Same(longer(d, 1), before) {
		t.Error("a task is changed")
	}
}

// P1: what is handed out is new memory, shared with no argument and no other answer.
func TestNewMemory(t *testing.T) {
	d := rich()
	m := finished(t, d, richInput(), fresh(t, d), 0, 2)
	keep := copiedMemory(m)
	first, second := finished(t, d, richInput(), m, 3), finished(t, d, richInput(), m, 3)
	want := copiedMemory(second)
	spoil := func(m api.Memory) {
		_, _ = append(m.Done, true), append(m.Vals, -99)
		for i := range m.Done {
			m.Done[i] = true
		}
		for i := range m.Vals {
			m.Vals[i] = -99
		}
	}
	spoil(first)
	if !equal(second, want) || !equal(m, keep) {
		t.Error("an answer of Finish shares memory")
	}
	spoil(m)
	if !equal(second, want) {
		t.Error("a memory that was handed in is kept")
	}
	spoil(fresh(t, d))
	if !equal(fresh(t, d), api.Memory{Done: make([]bool, 11), Vals: make([]int, 5)}) {
		t.Error("two answers of New share memory")
	}
	vals, _ := Run(d, richInput())
	others, _ := Run(d, richInput())
	vals[0], vals[4] = -99, -99
	if !slices.Equal(others, richVals()) {
		t.Error("two answers of Run share memory")
	}
	ready, other := Ready(d, second), Ready(d, second)
	ready[0] = -99
	if !slices.Equal(other, Ready(d, second)) || slices.Contains(other, -99) {
		t.Error("two answers of Ready share memory")
	}
	if !desc.Same(d, rich()) {
		t.Error("an answer shares memory with a task")
	}
	d.Parts[1].Arg, d.Edges[0] = 8, api.Edge{From: 0, To: 3}
	if l, e := Run(rich(), richInput()); e != api.OK || !slices.Equal(l, richVals()) {
		t.Error("an answer hangs on those ahead of it", l, e)
	}
}
