package dag

import (
	"math"
	"slices"
	"testing"

	"trefoil/api"
)

// edges is an edge from the first to the second number, from the third to the fourth, and so on.
func edges(ends ...int) []api.Edge {
	var l []api.Edge
	for i := 0; i+1 < len(ends); i += 2 {
		l = append(l, api.Edge{From: ends[i], To: ends[i+1]})
	}
	return l
}

// example is the chapter's: 0 and 1, of work 2 and 3, then 2, of work 4, behind both.
func example() api.Dag {
	return api.Dag{Work: []int{2, 3, 4}, Edges: edges(0, 2, 1, 2)}
}

// works are rows of work: noughts, all alike, rising, falling, one great.
func works(count int) [][]int {
	l := [][]int{make([]int, count), make([]int, count), make([]int, count), make([]int, count), make([]int, count)}
	for n := range count {
		l[1][n] = api.MaxWork
		l[2][n] = n + 1
		l[3][n] = 1 << (count - n)
		l[4][n] = n * n % 3 * 7
	}
	return l
}

// pairs are all edges between two different ones of so many nodes.
func pairs(count int) []api.Edge {
	var l []api.Edge
	for a := range count {
		for b := range count {
			if a != b {
				l = append(l, api.Edge{From: a, To: b})
			}
		}
	}
	return l
}

// picked are those of the edges whose bits are in a number.
func picked(all []api.Edge, bits int) []api.Edge {
	var l []api.Edge
	for i, e := range all {
		if bits>>i&1 == 1 {
			l = append(l, e)
		}
	}
	return l
}

// smallGraphs hands out all graphs of up to 4 nodes, those among them in which a way leads round; and all of 5 nodes whose edges rise, by two other names for the nodes.
func smallGraphs(give func(work []int, edges []api.Edge)) {
	for count := range 5 {
		all := pairs(count)
		for bits := range 1 << len(all) {
			for _, w := range works(count) {
				give(w, picked(all, bits))
			}
		}
	}
	rising := edges(0, 1, 0, 2, 0, 3, 0, 4, 1, 2, 1, 3, 1, 4, 2, 3, 2, 4, 3, 4)
	for _, name := range [][]int{{0, 1, 2, 3, 4}, {3, 0, 4, 1, 2}, {4, 3, 2, 1, 0}} {
		for bits := range 1 << len(rising) {
			l := picked(rising, bits)
			for i, e := range l {
				l[i] = api.Edge{From: name[e.From], To: name[e.To]}
			}
			for _, w := range works(5) {
				give(w, l)
			}
		}
	}
}

// leads is whether a way along at most so many edges leads from a node to another one, by the chapter's words: along one edge, or more.
func leads(l []api.Edge, a, b, most int) bool {
	if most == 0 {
		return false
	}
	for _, e := range l {
		if e.From == a && (e.To == b || leads(l, e.To, b, most-1)) {
			return true
		}
	}
	return false
}

// goesRound is whether a way leads from one of so many nodes to itself.
func goesRound(l []api.Edge, count int) bool {
	for n := range count {
		if leads(l, n, n, count) {
			return true
		}
	}
	return false
}

// heaviest is the greatest work of all ways that begin with a node, that one alone among them.
func heaviest(work []int, l []api.Edge, n int) int {
	most := 0
	for _, e := range l {
		if e.From == n {
			most = max(most, heaviest(work, l, e.To))
		}
	}
	return work[n] + most
}

// longest is the greatest work of all ways.
func longest(work []int, l []api.Edge) int {
	most := 0
	for n := range work {
		most = max(most, heaviest(work, l, n))
	}
	return most
}

// ends are the nodes From which an edge leads to a node, and To which one leads from it, rising.
func ends(l []api.Edge, n int) (preds, succs []int) {
	for _, e := range l {
		if e.To == n {
			preds = append(preds, e.From)
		}
		if e.From == n {
			succs = append(succs, e.To)
		}
	}
	slices.Sort(preds)
	slices.Sort(succs)
	return preds, succs
}

// line is so many nodes, each behind the one ahead of it, each of a work.
func line(count, work int) api.Dag {
	d := api.Dag{Work: make([]int, count)}
	for n := range count {
		d.Work[n] = work
		if n > 0 {
			d.Edges = append(d.Edges, api.Edge{From: n - 1, To: n})
		}
	}
	return d
}

// full is a graph of all nodes that there may be, each of the greatest work, and of so many edges, each one rising, those to the greatest nodes first.
func full(many int) api.Dag {
	d := api.Dag{Work: make([]int, api.MaxNodes)}
	for n := range d.Work {
		d.Work[n] = api.MaxWork
	}
	for b := api.MaxNodes - 1; b > 0; b-- {
		for a := 0; a < b && len(d.Edges) < many; a++ {
			d.Edges = append(d.Edges, api.Edge{From: a, To: b})
		}
	}
	return d
}

// tellsNothing is whether all calls but Check and Same answer none, 0 or false, at nodes and at what is none.
func tellsNothing(d api.Dag) bool {
	if len(Order(d)) != 0 || Total(d) != 0 || Long(d) != 0 {
		return false
	}
	for a := -2; a <= len(d.Work)+1; a++ {
		if len(Preds(d, a)) != 0 || len(Succs(d, a)) != 0 {
			return false
		}
		for b := -2; b <= len(d.Work)+1; b++ {
			if Before(d, a, b) {
				return false
			}
		}
	}
	return true
}

// P4.1: Check, of ordinary graphs and at the edges: no node, one alone, as many nodes and edges as there may be, works of 0 and of MaxWork.
func TestCheckRight(t *testing.T) {
	for i, d := range []api.Dag{
		{},
		{Work: []int{}, Edges: []api.Edge{}},
		{Work: []int{0}},
		{Work: []int{api.MaxWork}},
		{Work: []int{0, api.MaxWork, 0}},
		example(),
		{Work: []int{1, 1}, Edges: edges(1, 0)},
		{Work: []int{1, 1, 1}, Edges: edges(2, 1, 2, 0, 1, 0)},
		line(api.MaxNodes, 0),
		line(api.MaxNodes, api.MaxWork),
		full(api.MaxEdges),
		full(api.MaxEdges - 1),
	} {
		if e := Check(d); e != api.OK {
			t.Error(i, e)
		}
	}
	if d := full(api.MaxEdges); len(d.Edges) != 256 || len(d.Work) != 64 {
		t.Error("as many as there may be", len(d.Work), len(d.Edges))
	}
}

// P4.1: Check, of graphs that may not be: each error alone, and several at once, of which the first is told; all else tells nothing.
func TestCheckWrong(t *testing.T) {
	far := []int{api.MinInt, -1 << 32, -64, -1, 3, 4, 63, 64, 1 << 32, api.MaxInt}
	type try struct {
		d    api.Dag
		want api.Errno
	}
	tries := []try{
		// one node too many, one edge too many
		{api.Dag{Work: make([]int, 65)}, api.ErrDagMany},
		{line(65, 1), api.ErrDagMany},
		{api.Dag{Work: make([]int, 1000)}, api.ErrDagMany},
		{full(api.MaxEdges + 1), api.ErrDagMany},
		{full(1000), api.ErrDagMany},
		{api.Dag{Edges: make([]api.Edge, 257)}, api.ErrDagMany},
		// a work below 0 and one above MaxWork, wherever it stands
		{api.Dag{Work: []int{-1}}, api.ErrDagWork},
		{api.Dag{Work: []int{1001}}, api.ErrDagWork},
		{api.Dag{Work: []int{0, 0, -1}}, api.ErrDagWork},
		{api.Dag{Work: []int{0, 1001, 0}}, api.ErrDagWork},
		{api.Dag{Work: []int{1001, 0, 0}}, api.ErrDagWork},
		{api.Dag{Work: []int{api.MinInt}}, api.ErrDagWork},
		{api.Dag{Work: []int{api.MaxInt}}, api.ErrDagWork},
		{api.Dag{Work: []int{1, 1 << 32}}, api.ErrDagWork},
		// edges of no node, from a node to itself, there twice
		{api.Dag{Edges: edges(0, 1)}, api.ErrDagEdge},
		{api.Dag{Edges: edges(0, 0)}, api.ErrDagEdge},
		{api.Dag{Work: []int{1}, Edges: edges(0, 0)}, api.ErrDagEdge},
		{api.Dag{Work: []int{1, 1, 1}, Edges: edges(0, 1, 2, 2)}, api.ErrDagEdge},
		{api.Dag{Work: []int{1, 1, 1}, Edges: edges(0, 1, 0, 1)}, api.ErrDagEdge},
		{api.Dag{Work: []int{1, 1, 1}, Edges: edges(0, 1, 1, 2, 0, 2, 0, 1)}, api.ErrDagEdge},
		{api.Dag{Work: []int{1, 1, 1}, Edges: edges(1, 2, 0, 1, 1, 2)}, api.ErrDagEdge},
		// a way that leads round: by two nodes, by three, by all that there may be, beside others, behind others, ahead of others
		{api.Dag{Work: []int{1, 1}, Edges: edges(0, 1, 1, 0)}, api.ErrDagRound},
		{api.Dag{Work: []int{1, 1, 1}, Edges: edges(2, 1, 1, 0, 0, 2)}, api.ErrDagRound},
		{api.Dag{Work: []int{0, 0, 0, 0}, Edges: edges(0, 1, 2, 3, 3, 2)}, api.ErrDagRound},
		{api.Dag{Work: []int{0, 0, 0, 0}, Edges: edges(0, 1, 1, 2, 2, 3, 3, 2)}, api.ErrDagRound},
		{api.Dag{Work: []int{0, 0, 0, 0}, Edges: edges(0, 1, 1, 0, 1, 2, 2, 3)}, api.ErrDagRound},
		// several at once
		{api.Dag{Work: append(make([]int, 64), -1), Edges: edges(0, 0)}, api.ErrDagMany},
		{api.Dag{Work: []int{-1, 1001}, Edges: make([]api.Edge, 257)}, api.ErrDagMany},
		{api.Dag{Work: make([]int, 65), Edges: edges(0, 1, 1, 0)}, api.ErrDagMany},
		{api.Dag{Work: []int{1, 1, -1}, Edges: edges(0, 3)}, api.ErrDagWork},
		{api.Dag{Work: []int{1, 1, 1001}, Edges: edges(0, 0)}, api.ErrDagWork},
		{api.Dag{Work: []int{1, 1, 1001}, Edges: edges(0, 1, 0, 1)}, api.ErrDagWork},
		{api.Dag{Work: []int{1, -1}, Edges: edges(0, 1, 1, 0)}, api.ErrDagWork},
		{api.Dag{Work: []int{1, 1}, Edges: edges(0, 1, 1, 0, 0, 2)}, api.ErrDagEdge},
		{api.Dag{Work: []int{1, 1}, Edges: edges(0, 1, 1, 0, 1, 1)}, api.ErrDagEdge},
		{api.Dag{Work: []int{1, 1}, Edges: edges(0, 1, 1, 0, 0, 1)}, api.ErrDagEdge},
	}
	for _, n := range far {
		tries = append(tries, try{api.Dag{Work: []int{1, 1, 1}, Edges: edges(n, 1)}, api.ErrDagEdge}, try{api.Dag{Work: []int{1, 1, 1}, Edges: edges(0, 1, 1, n)}, api.ErrDagEdge}, try{api.Dag{Work: []int{1, 1, 1}, Edges: edges(n, n)}, api.ErrDagEdge})
	}
	ring := line(api.MaxNodes, 1)
	ring.Edges = append(ring.Edges, api.Edge{From: 63, To: 0})
	tries = append(tries, try{ring, api.ErrDagRound})
	great := full(api.MaxEdges)
	great.Edges[255] = api.Edge{From: 63, To: 0}
	tries = append(tries, try{great, api.ErrDagRound})
	for i, x := range tries {
		if e := Check(x.d); e != x.want {
			t.Error(i, e, x.want)
		}
		if !tellsNothing(x.d) {
			t.Error(i, "something is told of a graph that may not be")
		}
	}
}

// P4.1: Same, of graphs alike and not, of edges that stand in another order, and of graphs that may not be.
func TestSame(t *testing.T) {
	if !Same(example(), example()) || !Same(api.Dag{}, api.Dag{}) || !Same(api.Dag{}, api.Dag{Work: []int{}, Edges: []api.Edge{}}) {
		t.Error("alike")
	}
	wrong := api.Dag{Work: []int{-1, 1001}, Edges: edges(5, 5, 5, 5, -1, 9)}
	if !Same(wrong, api.Dag{Work: slices.Clone(wrong.Work), Edges: slices.Clone(wrong.Edges)}) || !Same(full(1000), full(1000)) || !Same(line(65, 0), line(65, 0)) {
		t.Error("alike, of those that may not be")
	}
	for i, d := range []api.Dag{
		{},
		{Work: []int{2, 3, 4}},
		{Edges: edges(0, 2, 1, 2)},
		{Work: []int{2, 3, 4}, Edges: edges(1, 2, 0, 2)},
		{Work: []int{2, 3, 4}, Edges: edges(0, 2)},
		{Work: []int{2, 3, 4}, Edges: edges(0, 2, 1, 2, 0, 1)},
		{Work: []int{2, 3, 4}, Edges: edges(0, 2, 2, 1)},
		{Work: []int{2, 3, 4}, Edges: edges(2, 0, 2, 1)},
		{Work: []int{2, 3, 4}, Edges: edges(0, 2, 1, 0)},
		{Work: []int{2, 3, 5}, Edges: edges(0, 2, 1, 2)},
		{Work: []int{3, 2, 4}, Edges: edges(0, 2, 1, 2)},
		{Work: []int{2, 3}, Edges: edges(0, 2, 1, 2)},
		{Work: []int{2, 3, 4, 0}, Edges: edges(0, 2, 1, 2)},
		wrong,
	} {
		if Same(example(), d) || Same(d, example()) {
			t.Error(i)
		}
	}
}

// P4.2: Preds, Succs and Order of the chapter's example, and of graphs whose nodes stand otherwise than by their numbers.
func TestOrder(t *testing.T) {
	for i, x := range []struct {
		d    api.Dag
		want []int
	}{
		{api.Dag{}, nil},
		{api.Dag{Work: []int{7}}, []int{0}},
		{example(), []int{0, 1, 2}},
		{api.Dag{Work: []int{1, 1, 1}}, []int{0, 1, 2}},
		{api.Dag{Work: []int{1, 1, 1}, Edges: edges(2, 0)}, []int{1, 2, 0}},
		{api.Dag{Work: []int{1, 1, 1}, Edges: edges(2, 1, 1, 0)}, []int{2, 1, 0}},
		{api.Dag{Work: []int{1, 1, 1, 1}, Edges: edges(1, 0)}, []int{1, 0, 2, 3}},
		{api.Dag{Work: []int{1, 1, 1, 1, 1}, Edges: edges(3, 0, 3, 1, 0, 2, 1, 2)}, []int{3, 0, 1, 2, 4}},
		{api.Dag{Work: []int{0, 9, 0, 9}, Edges: edges(3, 1, 2, 0)}, []int{2, 0, 3, 1}},
	} {
		if got := Order(x.d); !slices.Equal(got, x.want) {
			t.Error(i, got, x.want)
		}
	}
	falling := line(api.MaxNodes, 1)
	for i, e := range falling.Edges {
		falling.Edges[i] = api.Edge{From: e.To, To: e.From}
	}
	want := make([]int, api.MaxNodes)
	for n := range want {
		want[n] = n
	}
	if !slices.Equal(Order(line(api.MaxNodes, 1)), want) || !slices.Equal(Order(full(api.MaxEdges)), want) {
		t.Error("all that there may be")
	}
	slices.Reverse(want)
	if !slices.Equal(Order(falling), want) {
		t.Error("falling", Order(falling))
	}
}

// P4.2: Preds and Succs of nodes, rising however the edges stand, and of what is no node.
func TestEnds(t *testing.T) {
	d := api.Dag{Work: []int{1, 1, 1, 1}, Edges: edges(3, 0, 1, 0, 2, 0, 3, 2, 3, 1)}
	for i, x := range []struct {
		n            int
		preds, succs []int
	}{
		{0, []int{1, 2, 3}, nil},
		{1, []int{3}, []int{0}},
		{2, []int{3}, []int{0}},
		{3, nil, []int{0, 1, 2}},
		{4, nil, nil},
		{-1, nil, nil},
		{63, nil, nil},
		{64, nil, nil},
		{1 << 32, nil, nil},
		{math.MinInt, nil, nil},
		{math.MaxInt, nil, nil},
	} {
		if p, s := Preds(d, x.n), Succs(d, x.n); !slices.Equal(p, x.preds) || !slices.Equal(s, x.succs) {
			t.Error(i, p, s)
		}
	}
	great := full(api.MaxEdges)
	if p, s := Preds(great, 63), Succs(great, 0); len(p) != 63 || !slices.IsSorted(p) || p[62] != 62 || !slices.Equal(s, []int{59, 60, 61, 62, 63}) {
		t.Error("all that there may be", p, s)
	}
	if len(Preds(api.Dag{}, 0)) != 0 || len(Succs(api.Dag{}, 0)) != 0 {
		t.Error("no node")
	}
}

// P4.2: Before, along one edge, along all nodes, from and to what is no node, and from a node to itself.
func TestBefore(t *testing.T) {
	d := line(api.MaxNodes, 0)
	for a := -1; a <= api.MaxNodes; a++ {
		for b := -1; b <= api.MaxNodes; b++ {
			want := 0 <= a && a < b && b < api.MaxNodes
			if Before(d, a, b) != want {
				t.Error(a, b)
			}
		}
	}
	if !Before(example(), 0, 2) || !Before(example(), 1, 2) || Before(example(), 0, 1) || Before(example(), 2, 0) || Before(example(), 0, 0) {
		t.Error("the chapter's example")
	}
	for _, n := range []int{math.MinInt, -64, -1, 3, 64, 1 << 32, math.MaxInt} {
		if Before(example(), n, 2) || Before(example(), 0, n) || Before(example(), n, n) {
			t.Error(n)
		}
	}
	if Before(api.Dag{}, 0, 0) || Before(api.Dag{Work: []int{1}}, 0, 0) {
		t.Error("no edge")
	}
}

// P4.3: Total and Long of the chapter's example, and at the edges: no node, one alone, works of 0 and of MaxWork, one edge, all nodes on one way.
func TestTotalLong(t *testing.T) {
	for i, x := range []struct {
		d           api.Dag
		total, long int
	}{
		{example(), 9, 7},
		{api.Dag{}, 0, 0},
		{api.Dag{Work: []int{0}}, 0, 0},
		{api.Dag{Work: []int{5}}, 5, 5},
		{api.Dag{Work: []int{api.MaxWork}}, 1000, 1000},
		{api.Dag{Work: []int{5, 7, 6}}, 18, 7},
		{api.Dag{Work: []int{5, 7, 6}, Edges: edges(2, 0)}, 18, 11},
		{api.Dag{Work: []int{1, 1, 20}, Edges: edges(0, 1)}, 22, 20},
		{api.Dag{Work: []int{1, 9, 2, 4}, Edges: edges(0, 1, 0, 2, 2, 3)}, 16, 10},
		{api.Dag{Work: []int{1, 5, 2, 4}, Edges: edges(0, 1, 0, 2, 2, 3)}, 12, 7},
		{api.Dag{Work: []int{4, 0, 3}, Edges: edges(2, 1, 1, 0)}, 7, 7},
		{line(api.MaxNodes, 0), 0, 0},
		{line(api.MaxNodes, api.MaxWork), 64000, 64000},
		{api.Dag{Work: line(api.MaxNodes, api.MaxWork).Work}, 64000, 1000},
		{full(api.MaxEdges), 64000, 6000},
	} {
		if total, long := Total(x.d), Long(x.d); total != x.total || long != x.long {
			t.Error(i, total, long)
		}
	}
}

// P4.1 to P4.3: all small graphs, held against the chapter's own words.
func TestSmallGraphs(t *testing.T) {
	round := 0
	smallGraphs(func(work []int, l []api.Edge) {
		d := api.Dag{Work: work, Edges: l}
		if goesRound(l, len(work)) {
			round++
			if Check(d) != api.ErrDagRound || !tellsNothing(d) {
				t.Fatal(d, Check(d))
			}
			return
		}
		sum := 0
		for _, w := range work {
			sum += w
		}
		if Check(d) != api.OK || Total(d) != sum || Long(d) != longest(work, l) {
			t.Fatal(d, Check(d), Total(d), Long(d))
		}
		holdOrder(t, d)
		for a := range work {
			preds, succs := ends(l, a)
			if !slices.Equal(Preds(d, a), preds) || !slices.Equal(Succs(d, a), succs) {
				t.Fatal(d, a, Preds(d, a), Succs(d, a))
			}
			for b := range work {
				if Before(d, a, b) != leads(l, a, b, len(work)) {
					t.Fatal(d, a, b)
				}
			}
		}
	})
	if round == 0 {
		t.Error("no way led round")
	}
}

// holdOrder holds Order against its words: at each place the least of the nodes not yet there all of whose Preds are.
func holdOrder(t *testing.T, d api.Dag) {
	order := Order(d)
	if len(order) != len(d.Work) {
		t.Fatal(d, order)
	}
	for i := range order {
		least := -1
		for n := len(d.Work) - 1; n >= 0; n-- {
			preds, _ := ends(d.Edges, n)
			waits := slices.ContainsFunc(preds, func(p int) bool { return !slices.Contains(order[:i], p) })
			if !waits && !slices.Contains(order[:i], n) {
				least = n
			}
		}
		if order[i] != least {
			t.Fatal(d, order, i, least)
		}
	}
}

// P4.4: Long is at most Total; an edge more makes neither less.
func TestEdgeMore(t *testing.T) {
	longer := false
	smallGraphs(func(work []int, l []api.Edge) {
		d := api.Dag{Work: work, Edges: l}
		if Check(d) != api.OK {
			return
		}
		total, long := Total(d), Long(d)
		if long > total || len(work) > 0 && long < slices.Max(work) {
			t.Fatal(d, total, long)
		}
		for _, e := range pairs(len(work)) {
			more := api.Dag{Work: work, Edges: append(slices.Clone(l), e)}
			if Check(more) != api.OK {
				continue
			}
			if Total(more) != total || Long(more) < long {
				t.Fatal(d, e, Total(more), Long(more))
			}
			longer = longer || Long(more) > long
		}
	})
	if !longer {
		t.Error("no edge made a way longer")
	}
}

// P1: what is handed in is neither changed nor kept, the room behind it included; what is handed out is new memory.
func TestKeepsNothing(t *testing.T) {
	work := []int{2, 3, 4, -7, -8}
	l := edges(1, 2, 0, 2, 9, 9, 8, 8)
	d := api.Dag{Work: work[:3], Edges: l[:2]}
	first := [][]int{Preds(d, 2), Succs(d, 0), Order(d)}
	Check(d)
	Total(d)
	Long(d)
	Before(d, 0, 2)
	Same(d, d)
	if !slices.Equal(work, []int{2, 3, 4, -7, -8}) || !slices.Equal(l, edges(1, 2, 0, 2, 9, 9, 8, 8)) {
		t.Error("changed", work, l)
	}
	for _, row := range first {
		for i := range row {
			row[i] = -1
		}
	}
	again := [][]int{Preds(d, 2), Succs(d, 0), Order(d)}
	for i, want := range [][]int{{0, 1}, {2}, {0, 1, 2}} {
		if !slices.Equal(again[i], want) {
			t.Error(i, again[i])
		}
	}
	if !slices.Equal(work, []int{2, 3, 4, -7, -8}) {
		t.Error("shared", work)
	}
}
