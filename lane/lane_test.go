package lane

import (
	"slices"
	"testing"

	"trefoil/api"
)

// job is a task's job, due by a time, with so much left of its nodes.
func job(task, due int, left ...int) api.Job { return api.Job{Task: task, Due: due, Left: left} }

// on is a lane with jobs, and the task whose node has begun.
func on(run int, jobs ...api.Job) api.Lane { return api.Lane{Jobs: jobs, Run: run} }

// eight is a lane with as many jobs as there may be, of which the sixth one is due first.
func eight() api.Lane {
	return on(-1, job(0, 9, 1), job(1, 8, 2), job(2, 7, 3), job(3, 6, 4), job(4, 5, 5), job(5, 3, 6, 1), job(6, 4, 7), job(7, 4, 8))
}

// add is a lane with one more job, which may be added.
func add(t *testing.T, l api.Lane, j api.Job) api.Lane {
	t.Helper()
	more, e := Add(l, j)
	if e != api.OK {
		t.Fatal(l, j, int(e))
	}
	return more
}

// ticks holds what ticks do, one by one, and is the lane behind them.
func ticks(t *testing.T, l api.Lane, steps ...api.LaneStep) api.Lane {
	t.Helper()
	for i, want := range steps {
		after, step, e := Tick(l)
		if e != api.OK || step != want {
			t.Fatal(i, l, step, int(e))
		}
		l = after
	}
	return l
}

// runs, node and all are what a tick does for a task: its node goes on; is done; and with it all of its job.
func runs(task int) api.LaneStep { return api.LaneStep{Task: task} }
func node(task int) api.LaneStep { return api.LaneStep{Task: task, Node: true} }
func all(task int) api.LaneStep  { return api.LaneStep{Task: task, Node: true, All: true} }

// P18.1, P18.2: the chapter's example: task 0 is due by 9, task 1 by 5: 1 runs, if no node of 0 has begun; 0 runs on, if one has.
func TestExample(t *testing.T) {
	l := add(t, add(t, on(-1), job(0, 9, 2)), job(1, 5, 1, 2))
	if !alike(l, on(-1, job(0, 9, 2), job(1, 5, 1, 2))) || Next(l) != 1 {
		t.Fatal(l, Next(l))
	}
	l = ticks(t, l, node(1), runs(1), all(1), runs(0), all(0), runs(-1))
	if !alike(l, on(-1)) {
		t.Error(l)
	}
	l = ticks(t, add(t, on(-1), job(0, 9, 2)), runs(0))
	l = add(t, l, job(1, 5, 1, 2))
	if !alike(l, on(0, job(0, 9, 1), job(1, 5, 1, 2))) || Next(l) != 0 {
		t.Fatal(l, Next(l))
	}
	l = ticks(t, l, all(0), node(1), runs(1), all(1), runs(-1), runs(-1))
	if !alike(l, on(-1)) {
		t.Error(l)
	}
}

// P18.1: lanes that may be, with the edges: no job, one, as many as there may be; tasks, times, numbers and how many there are.
func TestCheck(t *testing.T) {
	long := slices.Repeat([]int{1000}, 64)
	for i, l := range []api.Lane{
		on(-1), {Jobs: []api.Job{}, Run: -1}, on(-1, job(0, 0, 1)), on(0, job(0, 0, 1)), on(-1, job(7, 1<<40-1, 1000)), on(7, job(7, 1<<40-1, 1000)), on(-1, job(3, 5, long...)), on(3, job(3, 5, long...)),
		on(-1, job(0, 0, 1), job(7, 0, 1)), on(0, job(0, 0, 1), job(7, 0, 1)), on(7, job(0, 0, 1), job(7, 0, 1)), on(4, job(2, 9, 1), job(4, 9, 2, 1000, 1), job(5, 1, 3)),
		eight(), on(0, eight().Jobs...), on(5, eight().Jobs...), on(7, eight().Jobs...),
	} {
		if e := Check(l); e != api.OK {
			t.Error(i, int(e))
		}
		holdWords(t, l)
	}
}

// P18.1: the job that is due first runs next, and of the same Due the least task; but the one whose node has begun runs on.
func TestNext(t *testing.T) {
	for i, x := range []struct {
		l    api.Lane
		want int
	}{
		{on(-1), -1}, {on(-1, job(0, 5, 1)), 0}, {on(-1, job(7, 0, 1000)), 7}, {on(7, job(7, 0, 1000)), 7},
		{on(-1, job(0, 9, 1), job(1, 5, 1)), 1}, {on(-1, job(0, 5, 1), job(1, 9, 1)), 0}, {on(-1, job(0, 5, 1), job(1, 5, 1)), 0}, {on(-1, job(6, 5, 1), job(7, 5, 1)), 6}, {on(-1, job(6, 5, 1), job(7, 4, 1)), 7},
		{on(-1, job(1, 9, 1), job(3, 4, 9), job(5, 4, 1)), 3}, {on(-1, job(1, 4, 1), job(3, 9, 1), job(5, 4, 1)), 1}, {on(-1, job(1, 9, 1), job(3, 5, 1), job(5, 4, 1)), 5}, {on(-1, job(1, 3, 1), job(3, 3, 1), job(5, 3, 1)), 1}, {on(-1, job(2, 0, 1), job(3, 1<<40-1, 1)), 2}, {on(-1, job(2, 1<<40-1, 1), job(3, 0, 1)), 3}, {on(-1, job(2, 1<<40-1, 1), job(3, 1<<40-2, 1)), 3}, {on(-1, job(2, 1<<40-1, 1), job(3, 1<<40-1, 1)), 2}, {on(-1, job(2, 1<<32, 1), job(3, 5, 1)), 3}, {on(-1, job(2, 1<<32+1, 1), job(3, 1<<33, 1)), 2},
		{on(0, job(0, 9, 1), job(1, 5, 1)), 0}, {on(1, job(0, 5, 1), job(1, 9, 1)), 1}, {on(1, job(0, 5, 1), job(1, 5, 1)), 1}, {on(5, job(1, 3, 1), job(3, 3, 1), job(5, 4, 1)), 5},
		{eight(), 5}, {on(0, eight().Jobs...), 0}, {on(7, eight().Jobs...), 7}, {on(-1, eight().Jobs[:5]...), 4}, {on(-1, eight().Jobs[6:]...), 6},
		// it isn't how much is left that tells
		{on(-1, job(0, 9, 1), job(1, 8, 1000, 1000, 1000)), 1}, {on(-1, job(0, 4, 1000), job(1, 5, 1)), 0},
	} {
		if task := Next(x.l); task != x.want {
			t.Error(i, task)
		}
		holdWords(t, x.l)
	}
}

// P18.1: a job is added in its place, with all of it; what else there is stays as it is, Run too, even if the new one is due earlier.
func TestAdd(t *testing.T) {
	long := slices.Repeat([]int{1000}, 64)
	for i, x := range []struct {
		l    api.Lane
		j    api.Job
		want api.Lane
	}{
		{on(-1), job(0, 0, 1), on(-1, job(0, 0, 1))}, {on(-1), job(7, 1<<40-1, 1000), on(-1, job(7, 1<<40-1, 1000))}, {on(-1), job(3, 7, long...), on(-1, job(3, 7, long...))},
		{on(-1, job(3, 7, 2, 1)), job(0, 9, 4, 5), on(-1, job(0, 9, 4, 5), job(3, 7, 2, 1))}, {on(-1, job(3, 7, 2, 1)), job(7, 9, 4, 5), on(-1, job(3, 7, 2, 1), job(7, 9, 4, 5))}, {on(-1, job(3, 7, 2, 1)), job(2, 1, 4), on(-1, job(2, 1, 4), job(3, 7, 2, 1))}, {on(-1, job(3, 7, 2, 1)), job(4, 1, 4), on(-1, job(3, 7, 2, 1), job(4, 1, 4))},
		{on(3, job(3, 7, 2, 1)), job(0, 1, 4), on(3, job(0, 1, 4), job(3, 7, 2, 1))}, {on(3, job(3, 7, 2, 1)), job(5, 1, 4), on(3, job(3, 7, 2, 1), job(5, 1, 4))},
		{on(-1, job(1, 5, 1), job(4, 4, 2), job(6, 3, 3)), job(0, 8, 4), on(-1, job(0, 8, 4), job(1, 5, 1), job(4, 4, 2), job(6, 3, 3))}, {on(-1, job(1, 5, 1), job(4, 4, 2), job(6, 3, 3)), job(3, 8, 4), on(-1, job(1, 5, 1), job(3, 8, 4), job(4, 4, 2), job(6, 3, 3))}, {on(6, job(1, 5, 1), job(4, 4, 2), job(6, 3, 3)), job(5, 4, 4), on(6, job(1, 5, 1), job(4, 4, 2), job(5, 4, 4), job(6, 3, 3))}, {on(1, job(1, 5, 1), job(4, 4, 2), job(6, 3, 3)), job(7, 0, 4), on(1, job(1, 5, 1), job(4, 4, 2), job(6, 3, 3), job(7, 0, 4))},
		{on(-1, eight().Jobs[:7]...), eight().Jobs[7], eight()}, {on(-1, eight().Jobs[1:]...), eight().Jobs[0], eight()},
	} {
		if l, e := Add(x.l, x.j); e != api.OK || !alike(l, x.want) {
			t.Error(i, l, int(e))
		}
		holdWords(t, x.l)
	}
}

// P18.1: a task's job is dropped: what else there is stays as it is, Run too; -1, if it was that task's.
func TestDrop(t *testing.T) {
	for i, x := range []struct {
		l    api.Lane
		task int
		want api.Lane
	}{
		{on(-1, job(0, 0, 1)), 0, on(-1)}, {on(0, job(0, 0, 1)), 0, on(-1)}, {on(7, job(7, 4, 1, 2)), 7, on(-1)},
		{on(-1, job(1, 5, 1), job(4, 4, 2, 9), job(6, 3, 3)), 1, on(-1, job(4, 4, 2, 9), job(6, 3, 3))}, {on(-1, job(1, 5, 1), job(4, 4, 2, 9), job(6, 3, 3)), 4, on(-1, job(1, 5, 1), job(6, 3, 3))}, {on(-1, job(1, 5, 1), job(4, 4, 2, 9), job(6, 3, 3)), 6, on(-1, job(1, 5, 1), job(4, 4, 2, 9))},
		{on(1, job(1, 5, 1), job(4, 4, 2, 9), job(6, 3, 3)), 1, on(-1, job(4, 4, 2, 9), job(6, 3, 3))}, {on(1, job(1, 5, 1), job(4, 4, 2, 9), job(6, 3, 3)), 4, on(1, job(1, 5, 1), job(6, 3, 3))}, {on(4, job(1, 5, 1), job(4, 4, 2, 9), job(6, 3, 3)), 4, on(-1, job(1, 5, 1), job(6, 3, 3))}, {on(4, job(1, 5, 1), job(4, 4, 2, 9), job(6, 3, 3)), 6, on(4, job(1, 5, 1), job(4, 4, 2, 9))}, {on(4, job(1, 5, 1), job(4, 4, 2, 9), job(6, 3, 3)), 1, on(4, job(4, 4, 2, 9), job(6, 3, 3))}, {on(6, job(1, 5, 1), job(4, 4, 2, 9), job(6, 3, 3)), 6, on(-1, job(1, 5, 1), job(4, 4, 2, 9))},
		{eight(), 7, on(-1, eight().Jobs[:7]...)}, {on(7, eight().Jobs...), 7, on(-1, eight().Jobs[:7]...)}, {on(7, eight().Jobs...), 0, on(7, eight().Jobs[1:]...)},
	} {
		if l, e := Drop(x.l, x.task); e != api.OK || !alike(l, x.want) {
			t.Error(i, l, int(e))
		}
		holdWords(t, x.l)
	}
}

// P18.2: one tick: a node goes on, is done, is the last one of its job, that the last job; nothing else changes.
func TestTick(t *testing.T) {
	for i, x := range []struct {
		l    api.Lane
		step api.LaneStep
		want api.Lane
	}{
		{on(-1), runs(-1), on(-1)},
		{on(-1, job(0, 9, 2)), runs(0), on(0, job(0, 9, 1))}, {on(0, job(0, 9, 2)), runs(0), on(0, job(0, 9, 1))}, {on(-1, job(7, 0, 1000, 3)), runs(7), on(7, job(7, 0, 999, 3))}, {on(-1, job(2, 9, 2, 1)), runs(2), on(2, job(2, 9, 1, 1))},
		{on(-1, job(0, 9, 1, 2)), node(0), on(-1, job(0, 9, 2))}, {on(0, job(0, 9, 1, 2)), node(0), on(-1, job(0, 9, 2))}, {on(-1, job(0, 9, 1, 1, 1)), node(0), on(-1, job(0, 9, 1, 1))}, {on(7, job(7, 9, 1, 1000, 3, 4)), node(7), on(-1, job(7, 9, 1000, 3, 4))},
		{on(-1, job(0, 9, 1)), all(0), on(-1)}, {on(0, job(0, 9, 1)), all(0), on(-1)}, {on(-1, job(7, 1<<40-1, 1)), all(7), on(-1)},
		{on(-1, job(0, 9, 1), job(1, 5, 1)), all(1), on(-1, job(0, 9, 1))}, {on(0, job(0, 9, 1), job(1, 5, 1)), all(0), on(-1, job(1, 5, 1))}, {on(-1, job(0, 9, 1), job(1, 5, 2)), runs(1), on(1, job(0, 9, 1), job(1, 5, 1))}, {on(0, job(0, 9, 2), job(1, 5, 2)), runs(0), on(0, job(0, 9, 1), job(1, 5, 2))}, {on(0, job(0, 9, 1, 7), job(1, 5, 2)), node(0), on(-1, job(0, 9, 7), job(1, 5, 2))},
		{on(-1, job(2, 5, 3, 1), job(4, 5, 1)), runs(2), on(2, job(2, 5, 2, 1), job(4, 5, 1))}, {on(4, job(2, 5, 3, 1), job(4, 5, 1), job(6, 0, 1)), all(4), on(-1, job(2, 5, 3, 1), job(6, 0, 1))},
		// a time that is over long since tells nothing but who is first
		{on(-1, job(1, 0, 1000, 1000)), runs(1), on(1, job(1, 0, 999, 1000))},
	} {
		l, step, e := Tick(x.l)
		if e != api.OK || step != x.step || !alike(l, x.want) {
			t.Error(i, l, step, int(e))
		}
		holdWords(t, x.l)
		holdWords(t, l)
	}
	l, step, e := Tick(eight())
	want := eight()
	want.Jobs[5].Left[0], want.Run = 5, 5
	if e != api.OK || step != runs(5) || !alike(l, want) {
		t.Error(l, step, int(e))
	}
}

// P18.2: a whole life, tick by tick: jobs come while others run, and one is taken away.
func TestLife(t *testing.T) {
	l := add(t, add(t, on(-1), job(4, 20, 2, 3, 1)), job(1, 30, 2))
	l = ticks(t, l, runs(4), node(4), runs(4))
	l = add(t, add(t, l, job(6, 10, 1, 2)), job(0, 10, 2))
	if !alike(l, on(4, job(0, 10, 2), job(1, 30, 2), job(4, 20, 2, 1), job(6, 10, 1, 2))) {
		t.Fatal(l)
	}
	l = ticks(t, l, runs(4), node(4), runs(0), all(0), node(6), runs(6), all(6), all(4), runs(1))
	l = add(t, l, job(4, 5, 1))
	l, e := Drop(l, 1)
	if e != api.OK || !alike(l, on(-1, job(4, 5, 1))) {
		t.Fatal(l, int(e))
	}
	ticks(t, l, all(4), runs(-1), runs(-1))
}

// P18.2: the longest job, tick by tick.
func TestLongest(t *testing.T) {
	l, ran := on(-1, job(3, 0, slices.Repeat([]int{1000}, 64)...)), 0
	for range 64 {
		for range 999 {
			l = ticks(t, l, runs(3))
			ran++
		}
		step := node(3)
		if ran++; ran == 64000 {
			step = all(3)
		}
		l = ticks(t, l, step)
	}
	ticks(t, l, runs(-1))
}

// P18.1: two are the same whether lists are nil or empty; and are not, if they differ in one thing.
func TestSame(t *testing.T) {
	base := func() api.Lane { return on(4, job(1, 5, 1), job(4, 4, 2, 9, 3), job(6, 3, 3)) }
	l := base()
	if !Same(l, base()) || !Same(api.Lane{}, api.Lane{Jobs: []api.Job{}}) || !Same(on(-1), api.Lane{Jobs: []api.Job{}, Run: -1}) || !Same(on(0, job(0, 0)), on(0, api.Job{Left: []int{}})) {
		t.Fatal("they are the same")
	}
	for i, change := range []func(l *api.Lane){
		func(l *api.Lane) { l.Run = -1 }, func(l *api.Lane) { l.Run = 6 }, func(l *api.Lane) { l.Run = -5 }, func(l *api.Lane) { l.Run += 1 << 32 },
		func(l *api.Lane) { l.Jobs = l.Jobs[:2] }, func(l *api.Lane) { l.Jobs = l.Jobs[1:] }, func(l *api.Lane) { l.Jobs = nil }, func(l *api.Lane) { l.Jobs = append(l.Jobs, job(7, 3, 3)) }, func(l *api.Lane) { l.Jobs = append(l.Jobs, l.Jobs[2]) }, func(l *api.Lane) { l.Jobs = append(l.Jobs, api.Job{}) }, func(l *api.Lane) { l.Jobs[0], l.Jobs[2] = l.Jobs[2], l.Jobs[0] },
		func(l *api.Lane) { l.Jobs[0].Task = 0 }, func(l *api.Lane) { l.Jobs[2].Task = 7 }, func(l *api.Lane) { l.Jobs[1].Task += 256 },
		func(l *api.Lane) { l.Jobs[0].Due = 4 }, func(l *api.Lane) { l.Jobs[2].Due = 4 }, func(l *api.Lane) { l.Jobs[1].Due += 1 << 32 },
		func(l *api.Lane) { l.Jobs[0].Left[0] = 2 }, func(l *api.Lane) { l.Jobs[1].Left[0] = 1 }, func(l *api.Lane) { l.Jobs[1].Left[1] = 8 }, func(l *api.Lane) { l.Jobs[1].Left[2] = 4 }, func(l *api.Lane) { l.Jobs[2].Left[0] = -3 }, func(l *api.Lane) { l.Jobs[1].Left = []int{9, 2, 3} },
		func(l *api.Lane) { l.Jobs[1].Left = l.Jobs[1].Left[:2] }, func(l *api.Lane) { l.Jobs[1].Left = l.Jobs[1].Left[1:] }, func(l *api.Lane) { l.Jobs[2].Left = nil }, func(l *api.Lane) { l.Jobs[2].Left = []int{3, 0} }, func(l *api.Lane) { l.Jobs[2].Left = []int{3, 3} },
	} {
		x := base()
		change(&x)
		if Same(l, x) || Same(x, l) || !Same(x, clone(x)) {
			t.Error(i, x)
		}
	}
}
