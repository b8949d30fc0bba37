package admit

import (
	"math"
	"slices"
	"testing"

	"trefoil/api"
	"trefoil/class"
	"trefoil/edf"
	"trefoil/part"
)

// wrongCores are numbers of which there may not be so many cores: just so, far off, and such as look right when they are cut.
var wrongCores = []int{0, -1, -2, -8, 9, 10, 16, 64, 255, 256, 258, math.MinInt32, -1<<32 + 2, 1<<32 + 2, 1 << 40, 1 << 62, math.MinInt, math.MinInt + 2, math.MaxInt}

// chance hands out numbers below a bound, always the same ones.
type chance uint64

func (c *chance) next(below int) int {
	*c = *c*6364136223846793005 + 1442695040888963407
	return int(uint64(*c)>>33) % below
}

// works is works by chance, of so many parts, each up to a bound.
func (c *chance) works(parts, most int) []int {
	l := make([]int, parts)
	for i := range l {
		l[i] = 1 + c.next(most)
	}
	return l
}

// light is a light task by chance, that wants no more than about one of so many parts of a core.
func (c *chance) light(parts int) api.Desc {
	period := 8 << c.next(4)
	deadline := period - c.next(1+period/2)
	want := max(1, deadline/parts)
	return line(period, deadline, c.works(1+c.next(min(want, 3)), max(1, want/3))...)
}

// heavy is a heavy task by chance: its longest way is a part's work, and its deadline a little above.
func (c *chance) heavy() api.Desc {
	d := side(64, 1, c.works(2+c.next(5), 8)...)
	s, _ := class.Shape(d)
	d.Deadline = min(s.Total-1, s.Long+1+c.next(s.Long))
	return d
}

// tasks is up to 8 tasks by chance, most of them light.
func (c *chance) tasks() []api.Desc {
	l, parts, some := make([]api.Desc, c.next(9)), 1+c.next(6), 2+c.next(6)
	for i := range l {
		if c.next(some) == 0 {
			l[i] = c.heavy()
		} else {
			l[i] = c.light(parts)
		}
	}
	return l
}

// shapesByWords is the shapes of tasks and how many cores each one needs, or the first error, by the chapter's words.
func shapesByWords(l []api.Desc) ([]api.Shape, []int, api.Errno) {
	shapes, needs := []api.Shape{}, []int{}
	for _, d := range l {
		s, e := class.Shape(d)
		if e != api.OK {
			return nil, nil, e
		}
		shapes = append(shapes, s)
	}
	for _, s := range shapes {
		n, e := class.Cores(s)
		if e != api.OK {
			return nil, nil, e
		}
		needs = append(needs, n)
	}
	return shapes, needs, api.OK
}

// planByWords is the plan for tasks, by the chapter's words: cores are counted, not handed out.
func planByWords(l []api.Desc, cores int) (api.Plan, api.Errno) {
	if len(l) > 8 || cores < 1 || cores > 8 {
		return api.Plan{}, api.ErrAdmitMany
	}
	shapes, needs, e := shapesByWords(l)
	if e != api.OK {
		return api.Plan{}, e
	}
	p := api.Plan{Shapes: shapes, Cores: make([][]int, len(l))}
	taken, lights := 0, []api.Shape{}
	for i, s := range shapes {
		if s.Total <= s.Deadline {
			lights = append(lights, s)
			continue
		}
		for range needs[i] {
			p.Cores[i] = append(p.Cores[i], taken)
			taken++
		}
	}
	if taken > cores {
		return api.Plan{}, api.ErrAdmitFull
	}
	where, e := part.Place(lights, cores-taken)
	if e != api.OK {
		return api.Plan{}, api.ErrAdmitFull
	}
	for i, s := range shapes {
		if s.Total <= s.Deadline {
			p.Cores[i], where = []int{taken + where[0]}, where[1:]
		}
	}
	return p, api.OK
}

// rightByWords is whether a plan may be, by the chapter's words: each core keeps lists of its own.
func rightByWords(p api.Plan, cores int) bool {
	if cores < 1 || cores > 8 || len(p.Shapes) > 8 || len(p.Cores) != len(p.Shapes) {
		return false
	}
	heavies, lights := make([]int, cores), make([][]api.Shape, cores)
	for i, s := range p.Shapes {
		if n, e := class.Cores(s); e != api.OK || n != len(p.Cores[i]) {
			return false
		}
		for k, core := range p.Cores[i] {
			if core < 0 || core > cores-1 || k > 0 && core <= p.Cores[i][k-1] {
				return false
			}
			if s.Total > s.Deadline {
				heavies[core]++
			} else {
				lights[core] = append(lights[core], s)
			}
		}
	}
	for core, n := range heavies {
		if n > 1 || n == 1 && len(lights[core]) > 0 || !edf.Fits(lights[core]) {
			return false
		}
	}
	return true
}

// has is whether a task has a core, by the chapter's words.
func has(p api.Plan, task, core int) bool {
	for _, c := range p.Cores[task] {
		if c == core {
			return true
		}
	}
	return false
}

// tasksByWords is the heavy tasks that have a core, and the light ones: of those whose shape may be.
func tasksByWords(p api.Plan, core int) (heavies, lights []int) {
	for i, s := range p.Shapes {
		if i >= len(p.Cores) || !has(p, i, core) || class.Check(s) != api.OK {
			continue
		}
		if s.Total > s.Deadline {
			heavies = append(heavies, i)
		} else {
			lights = append(lights, i)
		}
	}
	return heavies, lights
}

// holdCore holds all that is told of a plan and one number of a core, or of cores, against the chapter's words.
func holdCore(t *testing.T, p api.Plan, n int) {
	t.Helper()
	heavies, lights := tasksByWords(p, n)
	first := -1
	if len(heavies) > 0 {
		first = heavies[0]
	}
	if task := Heavy(p, n); task != first {
		t.Fatal("Heavy", p, n, task, first)
	}
	if tasks := Light(p, n); !slices.Equal(tasks, lights) {
		t.Fatal("Light", p, n, tasks, lights)
	}
	if is := Right(p, n); is != rightByWords(p, n) {
		t.Fatal("Right", p, n, is)
	}
}

// holdPlan holds all that is told of a plan against the chapter's words, on all cores and on wrong ones.
func holdPlan(t *testing.T, p api.Plan) {
	t.Helper()
	for n := -1; n <= 9; n++ {
		holdCore(t, p, n)
	}
	for _, n := range wrongCores {
		holdCore(t, p, n)
	}
	if !Same(p, clone(p)) {
		t.Fatal("Same", p)
	}
}

// holdWords holds all that is told of tasks against the chapter's words, on all numbers of cores that may be and on wrong ones; and tells the least number that is enough (0: none is), and the last error.
func holdWords(t *testing.T, l []api.Desc) (int, api.Errno) {
	t.Helper()
	least, last := 0, api.OK
	for cores := 8; cores >= 1; cores-- {
		p, e := Admit(l, cores)
		want, why := planByWords(l, cores)
		if e != why || !alike(p, want) {
			t.Fatal("Admit", l, cores, p, int(e), want, int(why))
		}
		holdPlan(t, p)
		if e == api.OK {
			least = cores
		}
		if cores == 8 {
			last = e
		}
	}
	for _, cores := range wrongCores {
		if p, e := Admit(l, cores); e != api.ErrAdmitMany || !alike(p, api.Plan{}) {
			t.Fatal("Admit", l, cores, p, int(e))
		}
	}
	return least, last
}

// alike is whether two plans are the same, told without Same.
func alike(a, b api.Plan) bool {
	if len(a.Shapes) != len(b.Shapes) || len(a.Cores) != len(b.Cores) {
		return false
	}
	for i, s := range a.Shapes {
		if s != b.Shapes[i] {
			return false
		}
	}
	for i, own := range a.Cores {
		if !slices.Equal(own, b.Cores[i]) {
			return false
		}
	}
	return true
}

// clone is a plan that shares nothing with another one.
func clone(p api.Plan) api.Plan {
	c := api.Plan{Shapes: slices.Clone(p.Shapes), Cores: slices.Clone(p.Cores)}
	for i, own := range c.Cores {
		c.Cores[i] = slices.Clone(own)
	}
	return c
}
