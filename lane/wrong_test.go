package lane

import (
	"math"
	"slices"
	"testing"

	"trefoil/api"
)

// far are numbers far off what may be, and such as look right when they are cut.
var far = []int{-2, -7, -1 << 32, -1<<32 + 3, math.MinInt32, math.MinInt, math.MinInt + 3, 1 << 62, 1<<62 + 3, math.MaxInt, math.MaxInt - 7}

// wrongJobs are jobs with one thing wrong: just so, and far off.
func wrongJobs() []api.Job {
	var jobs []api.Job
	for _, task := range append([]int{-1, 8, 9, 15, 64, 256 + 3, 1<<32 + 3, 1 << 32}, far...) {
		jobs = append(jobs, job(task, 5, 2, 1))
	}
	for _, due := range append([]int{-1, 1 << 40, 1<<40 + 1, 1<<41 + 5}, far...) {
		jobs = append(jobs, job(3, due, 2, 1))
	}
	for _, n := range []int{0, 65, 66, 128, 256 + 2, 1 << 16} {
		jobs = append(jobs, job(3, 5, slices.Repeat([]int{1}, n)...))
	}
	for _, work := range append([]int{0, -1, 1001, 1002, 4096, 1<<16 + 3, 1<<32 + 3, 1 << 32}, far...) {
		jobs = append(jobs, job(3, 5, work), job(3, 5, work, 2, 1), job(3, 5, 2, work, 1), job(3, 5, 2, 1, work), job(3, 5, append(slices.Repeat([]int{1}, 63), work)...))
	}
	return jobs
}

// wrongLanes are lanes with one thing wrong: a job, tasks that don't rise, Run.
func wrongLanes() []api.Lane {
	var lanes []api.Lane
	for _, j := range wrongJobs() {
		lanes = append(lanes, on(-1, j), on(j.Task, j))
		switch {
		case j.Task < 0:
			lanes = append(lanes, on(-1, j, job(0, 5, 1)), on(0, j, job(0, 5, 1)))
		case j.Task > 7:
			lanes = append(lanes, on(-1, job(7, 5, 1), j), on(7, job(7, 5, 1), j))
		default:
			lanes = append(lanes, on(-1, job(2, 5, 1), j, job(7, 5, 1)), on(2, job(2, 5, 1), j, job(7, 5, 1)), on(-1, j, job(4, 9, 1)), on(-1, job(0, 9, 1), j))
		}
	}
	for _, tasks := range [][]int{{0, 0}, {7, 7}, {1, 0}, {7, 0}, {7, 6}, {0, 1, 1}, {0, 0, 1}, {0, 2, 1}, {1, 0, 2}, {2, 1, 0}, {0, 1, 0}, {0, 1, 2, 3, 4, 5, 6, 7, 7}, {0, 1, 2, 3, 4, 5, 6, 7, 0}, {0, 0, 1, 2, 3, 4, 5, 6, 7}, {7, 6, 5, 4, 3, 2, 1, 0}, {0, 1, 2, 3, 4, 5, 7, 6}, {3, 3, 3, 3}} {
		l := on(-1)
		for _, task := range tasks {
			l.Jobs = append(l.Jobs, job(task, 5, 2, 1))
		}
		lanes = append(lanes, l, on(tasks[0], l.Jobs...))
	}
	for _, run := range append([]int{0, 2, 3, 5, 7, 8, 256 + 1, 256 - 1, 1<<32 - 1, 1<<32 + 1, 1<<32 + 4}, far...) {
		lanes = append(lanes, on(run), on(run, job(1, 5, 1)), on(run, job(1, 5, 1), job(4, 2, 2, 1)))
	}
	lanes = append(lanes, api.Lane{}, on(1, job(0, 5, 1)), on(0, eight().Jobs[1:]...), on(7, eight().Jobs[:7]...), on(8, eight().Jobs...), on(-2, eight().Jobs...), on(-1, slices.Repeat(eight().Jobs, 1<<12)...))
	return lanes
}

// isNone is whether just an error is told of a lane.
func isNone(l api.Lane, e, want api.Errno) bool { return e == want && alike(l, api.Lane{}) }

// P18.1, P18.2, P1: lanes that may not be: that error alone is told, whatever job or task is told beside, and none runs next.
func TestWrongLanes(t *testing.T) {
	for i, l := range wrongLanes() {
		if e := Check(l); e != api.ErrLaneForm {
			t.Fatal(i, l, int(e))
		}
		if task := Next(l); task != -1 {
			t.Fatal(i, l, task)
		}
		if after, step, e := Tick(l); !isNone(after, e, api.ErrLaneForm) || step != (api.LaneStep{}) {
			t.Fatal(i, l, after, step, int(e))
		}
		for task := -2; task <= 9; task++ {
			if less, e := Drop(l, task); !isNone(less, e, api.ErrLaneForm) {
				t.Fatal(i, l, task, less, int(e))
			}
			if more, e := Add(l, job(task, 3, 1, 2)); !isNone(more, e, api.ErrLaneForm) {
				t.Fatal(i, l, task, more, int(e))
			}
		}
		holdWords(t, l)
	}
}

// P18.1, P1: jobs that may not be aren't added, not even where a job of that task is there already, or where the lane may not be either.
func TestWrongJobs(t *testing.T) {
	for i, j := range wrongJobs() {
		for _, l := range []api.Lane{on(-1), on(-1, job(1, 5, 1)), on(3, job(3, 5, 2, 1)), on(-1, job(0, 1, 1), job(3, 5, 2, 1), job(7, 4, 4)), eight(), {}, on(-2), on(-1, job(3, 5, 1), job(3, 5, 1))} {
			if more, e := Add(l, j); !isNone(more, e, api.ErrLaneForm) {
				t.Fatal(i, j, l, more, int(e))
			}
		}
	}
}

// P18.1, P1: a job whose task's is there already isn't added, the same one or another, and a task that isn't there isn't dropped; just that error is told.
func TestWrongTask(t *testing.T) {
	for _, l := range []api.Lane{on(-1), on(-1, job(0, 5, 1)), on(7, job(7, 5, 1)), on(-1, job(1, 5, 1), job(4, 4, 2, 9), job(6, 3, 3)), on(4, job(1, 5, 1), job(4, 4, 2, 9), job(6, 3, 3)), eight(), on(2, eight().Jobs...)} {
		for _, j := range l.Jobs {
			for _, x := range []api.Job{j, job(j.Task, 0, 1), job(j.Task, 1<<40-1, 1000, 1000), job(j.Task, j.Due+1, j.Left...)} {
				if more, e := Add(l, x); !isNone(more, e, api.ErrLaneTask) {
					t.Error(l, x, more, int(e))
				}
			}
		}
		for _, task := range slices.Concat([]int{-1, 0, 1, 2, 3, 4, 5, 6, 7, 8, 9, 256 + 4, 1<<32 + 4, 1<<32 - 1, 1 << 32}, far) {
			if slices.ContainsFunc(l.Jobs, func(j api.Job) bool { return j.Task == task }) {
				continue
			}
			if less, e := Drop(l, task); !isNone(less, e, api.ErrLaneTask) {
				t.Error(l, task, less, int(e))
			}
		}
	}
}

// roomy is a list with spare room, in which marks stand.
func roomy[T any](l []T, mark T) []T {
	all := append(append([]T{}, l...), mark, mark, mark)
	return all[:len(l)]
}

// roomyLane is a lane whose lists have spare room, in which marks stand.
func roomyLane(was api.Lane) api.Lane {
	l := api.Lane{Jobs: roomy(was.Jobs, job(77, 77, 77)), Run: was.Run}
	for i, j := range was.Jobs {
		l.Jobs[i].Left = roomy(j.Left, 77)
	}
	return l
}

// isKept is whether a lane of spare room is as it was: what stands in it, and the marks.
func isKept(l, was api.Lane) bool {
	room := l.Jobs[:len(l.Jobs)+3]
	for _, j := range l.Jobs {
		if room := j.Left[:len(j.Left)+3]; !slices.Equal(room[len(j.Left):], []int{77, 77, 77}) {
			return false
		}
	}
	for _, j := range room[len(l.Jobs):] {
		if j.Task != 77 || j.Due != 77 || !slices.Equal(j.Left, []int{77}) {
			return false
		}
	}
	return alike(l, was)
}

// overwrite writes over all that is told, the room behind included.
func overwrite(l api.Lane) {
	whole := l.Jobs[:cap(l.Jobs)]
	for i := range whole {
		left := whole[i].Left[:cap(whole[i].Left)]
		for k := range left {
			left[k] = 55
		}
		whole[i] = job(55, 55)
	}
}

// areApart holds that no two lists of a lane share memory: one is written over and the others stay.
func areApart(t *testing.T, l api.Lane) {
	t.Helper()
	for i := range l.Jobs {
		was := clone(l)
		left := l.Jobs[i].Left[:cap(l.Jobs[i].Left)]
		for k := range left {
			left[k] = 55
		}
		for k := i + 1; k < len(l.Jobs); k++ {
			if !slices.Equal(l.Jobs[k].Left, was.Jobs[k].Left) {
				t.Fatal("two lists share memory", was, i, k)
			}
		}
	}
}

// P18.1, P18.2: what is handed over is left as it was, whether there is room, or not, and whether it may be, or not; what is told is new.
func TestLeftAlone(t *testing.T) {
	lanes := append([]api.Lane{on(-1), on(-1, job(3, 5, 1)), on(3, job(3, 5, 1)), on(-1, job(3, 5, 2, 1)), on(-1, job(1, 5, 1, 3), job(4, 4, 2, 9), job(6, 3, 1, 3)), on(4, job(1, 5, 1, 3), job(4, 4, 2, 9), job(6, 3, 1, 3)), on(1, job(1, 5, 1, 3), job(4, 4, 2, 9)), eight(), on(0, eight().Jobs...)}, wrongLanes()[:200]...)
	for _, was := range lanes {
		l, j := roomyLane(was), api.Job{Task: 2, Due: 3, Left: roomy([]int{1, 2}, 77)}
		hold := func(told api.Lane) {
			t.Helper()
			areApart(t, told)
			overwrite(told)
			if !isKept(l, was) || !slices.Equal(j.Left[:5], []int{1, 2, 77, 77, 77}) {
				t.Fatal(was, l, j)
			}
		}
		for range 2 {
			more, _ := Add(l, j)
			hold(more)
			after, _, _ := Tick(l)
			hold(after)
			for task := range 8 {
				less, _ := Drop(l, task)
				hold(less)
			}
			if Check(l) != Check(was) || Next(l) != Next(was) || !Same(l, was) {
				t.Fatal(was, l)
			}
			hold(api.Lane{})
		}
	}
}

// P18.1: what was added doesn't hang on what was handed over any more.
func TestNotKept(t *testing.T) {
	left := []int{3, 4}
	l, jobs := on(-1, job(1, 5, 6)), []int{6}
	l.Jobs[0].Left = jobs
	more, e := Add(l, api.Job{Task: 2, Due: 1, Left: left})
	left[0], jobs[0], l.Jobs[0].Task = 1, 1, 0
	if e != api.OK || !alike(more, on(-1, job(1, 5, 6), job(2, 1, 3, 4))) {
		t.Error(more, int(e))
	}
}
