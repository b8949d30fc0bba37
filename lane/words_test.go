package lane

import (
	"math"
	"slices"
	"testing"

	"trefoil/api"
)

// chance hands out numbers below a bound, always the same ones.
type chance uint64

func (c *chance) next(below int) int {
	*c = *c*6364136223846793005 + 1442695040888963407
	return int(uint64(*c)>>33) % below
}

// job is a job by chance, of some nodes; few ticks and few deadlines, so that some are the same.
func (c *chance) job(task int) api.Job {
	left := make([]int, 1+c.next(3))
	for i := range left {
		left[i] = 1 + c.next(3)
	}
	return api.Job{Task: task, Due: c.next(4), Left: left}
}

// lane is a lane by chance, of which a node may have begun.
func (c *chance) lane() api.Lane {
	l, some := api.Lane{Run: -1}, 1+c.next(4)
	for task := range 8 {
		if c.next(some) == 0 {
			l.Jobs = append(l.Jobs, c.job(task))
		}
	}
	if len(l.Jobs) > 0 && c.next(2) == 0 {
		l.Run = l.Jobs[c.next(len(l.Jobs))].Task
	}
	return l
}

// clone is the same lane, in other memory.
func clone(l api.Lane) api.Lane {
	l.Jobs = slices.Clone(l.Jobs)
	for i, j := range l.Jobs {
		l.Jobs[i].Left = slices.Clone(j.Left)
	}
	return l
}

// alike is whether all of two lanes is the same, looked at number by number.
func alike(a, b api.Lane) bool {
	if len(a.Jobs) != len(b.Jobs) || a.Run != b.Run {
		return false
	}
	for i := range a.Jobs {
		if a.Jobs[i].Task != b.Jobs[i].Task || a.Jobs[i].Due != b.Jobs[i].Due || len(a.Jobs[i].Left) != len(b.Jobs[i].Left) {
			return false
		}
		for k := range a.Jobs[i].Left {
			if a.Jobs[i].Left[k] != b.Jobs[i].Left[k] {
				return false
			}
		}
	}
	return true
}

// isJob is whether a job may be, by the chapter's words.
func isJob(j api.Job) bool {
	for _, work := range j.Left {
		if !(1 <= work && work <= 1000) {
			return false
		}
	}
	return 0 <= j.Task && j.Task <= 7 && 0 <= j.Due && j.Due <= 1<<40-1 && 1 <= len(j.Left) && len(j.Left) <= 64
}

// isLane is whether a lane may be, by the chapter's words.
func isLane(l api.Lane) bool {
	isRun := l.Run == -1
	for i, j := range l.Jobs {
		if !isJob(j) {
			return false
		}
		for _, other := range l.Jobs[:i] {
			if other.Task >= j.Task {
				return false
			}
		}
		isRun = isRun || l.Run == j.Task
	}
	return isRun
}

// places is the jobs of a lane that may be, each at its task's place; nil Left: there is none.
func places(l api.Lane) [8]api.Job {
	var at [8]api.Job
	for _, j := range clone(l).Jobs {
		at[j.Task] = j
	}
	return at
}

// laneOf is the lane of jobs at their tasks' places.
func laneOf(at [8]api.Job, run int) api.Lane {
	l := api.Lane{Run: run}
	for _, j := range at {
		if j.Left != nil {
			l.Jobs = append(l.Jobs, j)
		}
	}
	return l
}

// addByWords is Add by the chapter's words.
func addByWords(l api.Lane, j api.Job) (api.Lane, api.Errno) {
	if !isLane(l) || !isJob(j) {
		return api.Lane{}, api.ErrLaneForm
	}
	at := places(l)
	if at[j.Task].Left != nil {
		return api.Lane{}, api.ErrLaneTask
	}
	at[j.Task] = j
	return laneOf(at, l.Run), api.OK
}

// dropByWords is Drop by the chapter's words.
func dropByWords(l api.Lane, task int) (api.Lane, api.Errno) {
	if !isLane(l) {
		return api.Lane{}, api.ErrLaneForm
	}
	at, run := places(l), l.Run
	if task < 0 || task > 7 || at[task].Left == nil {
		return api.Lane{}, api.ErrLaneTask
	}
	at[task] = api.Job{}
	if run == task {
		run = -1
	}
	return laneOf(at, run), api.OK
}

// nextByWords is Next by the chapter's words: the one that no other one is ahead of.
func nextByWords(l api.Lane) int {
	if !isLane(l) {
		return -1
	}
	if l.Run != -1 {
		return l.Run
	}
	for _, j := range l.Jobs {
		ahead := 0
		for _, other := range l.Jobs {
			if other.Due < j.Due || other.Due == j.Due && other.Task < j.Task {
				ahead++
			}
		}
		if ahead == 0 {
			return j.Task
		}
	}
	return -1
}

// tickByWords is Tick by the chapter's words.
func tickByWords(l api.Lane) (api.Lane, api.LaneStep, api.Errno) {
	if !isLane(l) {
		return api.Lane{}, api.LaneStep{}, api.ErrLaneForm
	}
	task := nextByWords(l)
	if task == -1 {
		return l, api.LaneStep{Task: -1}, api.OK
	}
	at, step := places(l), api.LaneStep{Task: task}
	j := at[task]
	j.Left[0]--
	at[task] = j
	if j.Left[0] > 0 {
		return laneOf(at, task), step, api.OK
	}
	step.Node, step.All = true, len(j.Left) == 1
	at[task].Left = j.Left[1:]
	if step.All {
		at[task] = api.Job{}
	}
	return laneOf(at, -1), step, api.OK
}

// someTasks are numbers of tasks: all that may be, and such as aren't.
var someTasks = []int{0, 1, 2, 3, 4, 5, 6, 7, -1, -2, 8, 9, 64, 1 << 32, 1<<32 + 3, 256, math.MinInt, math.MaxInt}

// someJobs is jobs of all tasks, and such as may not be.
func someJobs() []api.Job {
	jobs := []api.Job{{}, {Left: []int{0}}, {Left: []int{1001}}, {Due: -1, Left: []int{1}}, {Task: 7, Due: 1 << 40, Left: []int{1}}}
	for _, task := range someTasks {
		jobs = append(jobs, api.Job{Task: task, Due: 2, Left: []int{3, 1}})
	}
	return jobs
}

// holdWords holds all that is told of a lane against the chapter's words.
func holdWords(t *testing.T, l api.Lane) {
	t.Helper()
	want := api.ErrLaneForm
	if isLane(l) {
		want = api.OK
	}
	if e := Check(l); e != want {
		t.Fatal(l, int(e))
	}
	if task := Next(l); task != nextByWords(l) {
		t.Fatal(l, task)
	}
	after, step, e := Tick(l)
	if x, s, w := tickByWords(l); !alike(after, x) || step != s || e != w {
		t.Fatal(l, after, step, int(e))
	}
	for _, task := range someTasks {
		less, e := Drop(l, task)
		if x, w := dropByWords(l, task); !alike(less, x) || e != w {
			t.Fatal(l, task, less, int(e))
		}
	}
	for _, j := range someJobs() {
		more, e := Add(l, j)
		if x, w := addByWords(l, j); !alike(more, x) || e != w {
			t.Fatal(l, j, more, int(e))
		}
	}
	if !Same(l, clone(l)) || Same(l, after) != alike(l, after) || Same(after, l) != alike(l, after) {
		t.Fatal(l, after)
	}
}
