package lane

import (
	"slices"
	"testing"

	"trefoil/api"
	"trefoil/edf"
)

// orders calls back with each order of numbers below n.
func orders(n int, told func(order []int)) {
	var grow func(order []int)
	grow = func(order []int) {
		if len(order) == n {
			told(order)
			return
		}
		for i := range n {
			if !slices.Contains(order, i) {
				grow(append(slices.Clone(order), i))
			}
		}
	}
	grow(nil)
}

// shuffled is numbers below n in an order by chance.
func (c *chance) shuffled(n int) []int {
	order := make([]int, n)
	for i := range order {
		k := c.next(i + 1)
		order[i], order[k] = order[k], i
	}
	return order
}

// holdOrder holds that jobs that are added in an order make that lane, and that, taken away in it, they leave what is left of it each time.
func holdOrder(t *testing.T, want api.Lane, order []int) {
	t.Helper()
	l := on(-1)
	for _, i := range order {
		l = add(t, l, want.Jobs[i])
	}
	if !alike(l, want) {
		t.Fatal(order, l)
	}
	kept := clone(want)
	for _, i := range order {
		task := want.Jobs[i].Task
		less, e := Drop(l, task)
		kept.Jobs = slices.DeleteFunc(kept.Jobs, func(j api.Job) bool { return j.Task == task })
		if e != api.OK || !alike(less, kept) {
			t.Fatal(order, i, less, int(e))
		}
		l = less
	}
}

// P18.1: in whichever order jobs are added, the lane is the same; and in whichever they are taken away, what is left is.
func TestOrders(t *testing.T) {
	five := on(-1, job(0, 4, 1), job(2, 3, 5, 6), job(3, 3, 7), job(6, 9, 1, 2, 3), job(7, 1, 1000))
	orders(5, func(order []int) { holdOrder(t, five, order) })
	c := chance(1)
	for range 300 {
		holdOrder(t, eight(), c.shuffled(8))
	}
}

// P18.1: what was added, and is taken away, leaves what there was: also if it was due first, and the node of another has begun.
func TestAddAndDrop(t *testing.T) {
	c := chance(2)
	added, begun := 0, 0
	for range 500 {
		l := c.lane()
		for task := range 8 {
			more, e := Add(l, c.job(task))
			if e != api.OK {
				continue
			}
			less, e := Drop(more, task)
			if e != api.OK || !alike(less, l) || !Same(less, l) || Same(more, l) {
				t.Fatal(l, more, less, int(e))
			}
			added++
			if l.Run != -1 {
				begun++
			}
		}
	}
	if added < 1000 || begun < 300 {
		t.Error("too few of a kind", added, begun)
	}
}

// P18.1, P18.2: all small lanes of up to three jobs, each due by one of two times, with one of some lists left, with Run of all kinds, held against the chapter's words.
func TestAllSmall(t *testing.T) {
	may := map[bool]int{}
	kinds := []api.Job{{Task: -1}}
	for due := range 2 {
		for _, left := range [][]int{{1}, {2}, {1, 2}} {
			kinds = append(kinds, api.Job{Due: due, Left: left})
		}
	}
	for _, a := range kinds {
		for _, b := range kinds {
			for _, c := range kinds {
				for run := -2; run <= 6; run++ {
					l := on(run)
					for i, j := range []api.Job{a, b, c} {
						if j.Task == 0 {
							j.Task = 1 + 2*i
							l.Jobs = append(l.Jobs, j)
						}
					}
					holdWords(t, l)
					may[Check(l) == api.OK]++
				}
			}
		}
	}
	if may[true] < 800 || may[false] < 800 {
		t.Error("too few of a kind", may)
	}
}

// spoil is a lane with one thing changed by chance; mostly so that it may not be any more.
func (c *chance) spoil(l api.Lane) api.Lane {
	l = clone(l)
	if len(l.Jobs) == 0 {
		return on(c.next(11)-2, c.job(c.next(11)-2))
	}
	i, k := c.next(len(l.Jobs)), c.next(len(l.Jobs))
	if len(l.Jobs[i].Left) == 0 {
		l.Jobs[i].Left = []int{1}
	}
	switch c.next(7) {
	case 0:
		l.Run = c.next(11) - 2
	case 1:
		l.Jobs[i].Task = c.next(11) - 2
	case 2:
		l.Jobs[i].Due -= 1 + c.next(3)
	case 3:
		l.Jobs[i].Left[0] -= 1 + c.next(2)
	case 4:
		l.Jobs[i], l.Jobs[k] = l.Jobs[k], l.Jobs[i]
	case 5:
		l.Jobs = slices.Delete(l.Jobs, i, i+1)
	default:
		l.Jobs[i].Left = l.Jobs[i].Left[1:]
	}
	return l
}

// P18.1, P18.2: lanes by chance, and with one thing changed, and several, held against the chapter's words, up to their last tick.
func TestByChance(t *testing.T) {
	c := chance(3)
	jobs, may := [9]int{}, map[bool]int{}
	for range 600 {
		l := c.lane()
		jobs[len(l.Jobs)]++
		for x := l; Next(x) != -1; x, _, _ = Tick(x) {
			holdWords(t, x)
		}
		for range 3 {
			l = c.spoil(l)
			holdWords(t, l)
			may[Check(l) == api.OK]++
		}
	}
	if slices.Min(jobs[:]) < 4 || may[true] < 200 || may[false] < 200 {
		t.Error("too few of a kind", jobs, may)
	}
}

// leftOf is how many ticks are left of all jobs.
func leftOf(l api.Lane) int {
	all := 0
	for _, j := range l.Jobs {
		for _, work := range j.Left {
			all += work
		}
	}
	return all
}

// P18.2: tick by tick one less is left, till nothing is left; as many nodes, and jobs, are done as there were.
func TestTillNothing(t *testing.T) {
	c := chance(4)
	for range 500 {
		l := c.lane()
		nodes, jobs := 0, len(l.Jobs)
		for _, j := range l.Jobs {
			nodes += len(j.Left)
		}
		for left := leftOf(l); left > 0; left-- {
			after, step, e := Tick(l)
			if e != api.OK || Check(after) != api.OK || step.Task != Next(l) || leftOf(after) != left-1 || step.All && !step.Node {
				t.Fatal(l, after, step, int(e))
			}
			if step.Node {
				nodes--
			}
			if step.All {
				jobs--
			}
			l = after
		}
		if nodes != 0 || jobs != 0 || !alike(l, on(-1)) {
			t.Fatal(l, nodes, jobs)
		}
		ticks(t, l, runs(-1), runs(-1))
	}
}

// P18.3: a node that has begun runs to its end, though jobs that are due earlier come, and others are taken away.
func TestToItsEnd(t *testing.T) {
	c := chance(5)
	begun, earlier := 0, 0
	for range 500 {
		l := c.lane()
		for range 40 {
			if l.Run != -1 {
				begun++
				if first := nextByWords(on(-1, l.Jobs...)); first != l.Run {
					earlier++
				}
			}
			run := l.Run
			after, step, _ := Tick(l)
			if run != -1 && step.Task != run {
				t.Fatal(l, step)
			}
			if step.Task != -1 && step.Node == (after.Run == step.Task) {
				t.Fatal(l, step, after)
			}
			l = after
			if task := c.next(8); task != l.Run {
				if more, e := Add(l, c.job(task)); e == api.OK {
					l = more
				} else if c.next(4) == 0 {
					l, _ = Drop(l, task)
				}
			}
		}
	}
	if begun < 5000 || earlier < 2000 {
		t.Error("too few of a kind", begun, earlier)
	}
}

// source is a task whose jobs are released: its shape, what the nodes of each one need, and when the next one may be, at first.
type source struct {
	shape api.Shape
	left  []int
	first int
}

// shapesOf is the shapes of all.
func shapesOf(l []source) []api.Shape {
	shapes := make([]api.Shape, len(l))
	for i, s := range l {
		shapes[i] = s.shape
	}
	return shapes
}

// isOnTime is whether each job is done by its Due, in so many ticks, if each is released as soon as it may be, or, told by wait, later; a job that isn't done yet when the next one comes is late, too.
func isOnTime(t *testing.T, l []source, ticks int, wait func(task int) int) bool {
	t.Helper()
	lane := on(-1)
	var next, due [8]int
	for i, s := range l {
		next[i] = s.first
	}
	for now := range ticks {
		for i, s := range l {
			if next[i] != now {
				continue
			}
			more, e := Add(lane, job(i, now+s.shape.Deadline, s.left...))
			if e != api.OK {
				return false
			}
			lane, due[i], next[i] = more, now+s.shape.Deadline, now+s.shape.Period+wait(i)
		}
		after, step, e := Tick(lane)
		if e != api.OK {
			t.Fatal(lane, int(e))
		}
		if step.All && now+1 > due[step.Task] {
			return false
		}
		lane = after
		for _, j := range lane.Jobs {
			if now+1 >= j.Due {
				return false
			}
		}
	}
	return true
}

// atOnce is that each job is released as soon as it may be.
func atOnce(int) int { return 0 }

// one is a task of one shape, whose nodes need all that it tells.
func one(period, deadline, first int, left ...int) source {
	total := 0
	for _, work := range left {
		total += work
	}
	return source{shape: api.Shape{Total: total, Long: total, Most: slices.Max(left), Deadline: deadline, Period: period}, left: left, first: first}
}

// P18.3: chapter 15's example is on time; with a longer node it doesn't fit, and is late; tasks that use up the whole core are on time just if they fit.
func TestOnTime(t *testing.T) {
	for i, x := range []struct {
		l           []source
		fit, timely bool
	}{
		{[]source{one(4, 4, 0, 2), one(8, 8, 0, 2, 2)}, true, true},
		{[]source{one(4, 4, 1, 2), one(8, 8, 0, 2, 2)}, true, true},
		{[]source{one(4, 4, 1, 2), one(8, 8, 0, 4)}, false, false},
		{[]source{one(4, 2, 1, 2), one(8, 8, 0, 2, 2)}, false, false},
		{[]source{one(1, 1, 0, 1)}, true, true},
		{[]source{one(2, 2, 0, 1), one(2, 2, 0, 1)}, true, true},
		{[]source{one(2, 2, 0, 1), one(2, 2, 0, 1), one(64, 64, 0, 1)}, false, false},
		{[]source{one(8, 8, 0, 1), one(8, 8, 0, 1), one(8, 8, 0, 1), one(8, 8, 0, 1), one(8, 8, 0, 1), one(8, 8, 0, 1), one(8, 8, 0, 1), one(8, 8, 0, 1)}, true, true},
		{[]source{one(8, 7, 0, 1), one(8, 7, 0, 1), one(8, 7, 0, 1), one(8, 7, 0, 1), one(8, 7, 0, 1), one(8, 7, 0, 1), one(8, 7, 0, 1), one(8, 7, 0, 1)}, false, false},
		{[]source{one(64, 64, 0, slices.Repeat([]int{1}, 64)...)}, true, true},
		{[]source{one(4, 2, 1, 1), one(64, 64, 0, slices.Repeat([]int{1}, 48)...)}, true, true},
		{[]source{one(4, 2, 1, 1), one(64, 64, 0, 3, 45)}, false, false},
	} {
		if edf.Fits(shapesOf(x.l)) != x.fit || isOnTime(t, x.l, 200, atOnce) != x.timely {
			t.Error(i)
		}
	}
}

// P18.3: two tasks of all small shapes that fit, each begun at all times that make a difference: all jobs are done by their Due.
func TestSmallOnTime(t *testing.T) {
	var shapes []source
	for _, left := range [][]int{{1}, {2}, {1, 1}, {3}, {1, 2}, {2, 2}} {
		for _, period := range []int{2, 4, 8} {
			for deadline := 1; deadline <= period; deadline++ {
				if s := one(period, deadline, 0, left...); s.shape.Total <= deadline {
					shapes = append(shapes, s)
				}
			}
		}
	}
	fit, late := 0, 0
	for _, a := range shapes {
		for _, b := range shapes {
			l := []source{a, b}
			isFit, always := edf.Fits(shapesOf(l)), true
			for first := range min(b.shape.Period, 5) {
				l[0].first = first
				timely := isOnTime(t, l, 20, atOnce)
				if isFit && !timely {
					t.Fatal(l)
				}
				always = always && timely
			}
			if isFit {
				fit++
			} else if !always {
				late++
			}
		}
	}
	if fit < 500 || late < 500 {
		t.Error("too few of a kind", fit, late)
	}
}

// source is a task by chance that wants about one of so many parts of a core; its jobs may need less than its shape tells.
func (c *chance) source(parts int) source {
	period := 4 << c.next(4)
	deadline := period - c.next(1+period/3)
	left := []int{1 + c.next(3)}
	for total := left[0]; total < deadline/parts && len(left) < 64; total += left[len(left)-1] {
		left = append(left, 1+c.next(3))
	}
	s := one(period, max(deadline, min(period, 3*len(left))), c.next(period), left...)
	if c.next(3) == 0 {
		s.left[c.next(len(left))] = 1
	}
	return s
}

// P18.3: up to eight tasks by chance that fit, released no earlier than their periods allow: all jobs are done by their Due.
func TestAllOnTime(t *testing.T) {
	c := chance(6)
	fit, late := [9]int{}, 0
	for range 3000 {
		n := 1 + c.next(8)
		l := make([]source, n)
		for i := range l {
			l[i] = c.source(2 * n)
		}
		isFit := edf.Fits(shapesOf(l))
		if isFit {
			fit[n]++
		}
		rest := 1 + c.next(4)
		for _, wait := range []func(int) int{atOnce, func(int) int { return c.next(rest) }} {
			timely := isOnTime(t, l, 100, wait)
			if isFit && !timely {
				t.Fatal(l)
			}
			if !timely {
				late++
			}
		}
	}
	if slices.Min(fit[1:]) < 10 || late < 200 {
		t.Error("too few of a kind", fit, late)
	}
}
