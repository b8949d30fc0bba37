package admit

import (
	"slices"
	"testing"

	"trefoil/api"
	"trefoil/class"
)

// spoil is a plan with one thing changed by chance; mostly so that it may not be any more.
func (c *chance) spoil(p api.Plan) api.Plan {
	p = clone(p)
	both := min(len(p.Shapes), len(p.Cores))
	if both == 0 {
		return api.Plan{Shapes: make([]api.Shape, c.next(3)), Cores: make([][]int, c.next(3))}
	}
	i, k := c.next(both), c.next(both)
	switch c.next(8) {
	case 0:
		p.Cores[i] = append([]int{c.next(11) - 1}, p.Cores[i][min(1, len(p.Cores[i])):]...)
	case 1:
		p.Cores[i] = p.Cores[i][:c.next(1+len(p.Cores[i]))]
	case 2:
		p.Cores[i] = append(p.Cores[i], c.next(9))
	case 3:
		p.Cores[i], p.Cores[k] = p.Cores[k], p.Cores[i]
	case 4:
		p.Shapes[i], p.Shapes[k] = p.Shapes[k], p.Shapes[i]
	case 5:
		p.Shapes[i].Total += c.next(9) - 4
	case 6:
		p.Shapes, p.Cores = slices.Delete(p.Shapes, i, i+1), slices.Delete(p.Cores, k, k+1)
	default:
		p.Cores = p.Cores[:i]
	}
	return p
}

// P17.1, P17.2, P17.3: up to eight tasks by chance, held against the chapter's words on all numbers of cores; and their plans, with one thing changed and with several.
func TestByChance(t *testing.T) {
	c := chance(2)
	leasts, errors, right := [9]int{}, map[api.Errno]int{}, map[bool]int{}
	for range 250 {
		l := c.tasks()
		least, e := holdWords(t, l)
		leasts[least]++
		errors[e]++
		p, _ := Admit(l, 8)
		for range 3 {
			p = c.spoil(p)
			holdPlan(t, p)
			right[Right(p, 8)]++
		}
	}
	if slices.Min(leasts[:]) < 5 || errors[api.OK] < 100 || errors[api.ErrAdmitFull] < 10 || right[true] < 100 || right[false] < 100 {
		t.Error("too few of a kind", leasts, errors, right)
	}
}

// P17.2, P17.3: all plans of two of some shapes, each with cores of all kinds, up to three of them from -1 to 3, held against the chapter's words.
func TestAllSmallPlans(t *testing.T) {
	kinds := append(shapes(lights(4, 2, 3), heavies(2, 3), row(side(8, 4, 4, 1))), api.Shape{})
	lists := [][]int{nil}
	for a := -1; a <= 3; a++ {
		lists = append(lists, []int{a})
		for b := 0; b <= 3; b++ {
			lists = append(lists, []int{a, b})
		}
		for b := 1; b <= 2; b++ {
			lists = append(lists, []int{a, b, 3 - a})
		}
	}
	right := map[bool]int{}
	for _, a := range kinds {
		for _, b := range kinds {
			for _, first := range lists {
				for _, second := range lists {
					p := api.Plan{Shapes: []api.Shape{a, b}, Cores: [][]int{first, second}}
					for core := -1; core <= 4; core++ {
						holdCore(t, p, core)
					}
					right[Right(p, 4)]++
				}
			}
		}
	}
	if right[true] < 50 || right[false] < 1000 {
		t.Error("too few of a kind", right)
	}
}

// isGreedy is whether no number of cores is enough for a task.
func isGreedy(d api.Desc) bool {
	s, _ := class.Shape(d)
	_, e := class.Cores(s)
	return e != api.OK
}

// needed is how many cores are surely enough for tasks whose needs may be told: as many as heavy ones need, and one for each light one.
func needed(t *testing.T, l []api.Desc) int {
	t.Helper()
	all := 0
	for _, d := range l {
		s, e := class.Shape(d)
		n, why := class.Cores(s)
		if e != api.OK || why != api.OK {
			t.Fatal(d, int(e), int(why))
		}
		all += n
	}
	return all
}

// holdFollows holds of tasks whose needs may be told what follows, on one core more each time: what is admitted is right, on more cores too; once there are enough, more are, and all stay where they were; it tells the least number that is enough (9: none is).
func holdFollows(t *testing.T, l []api.Desc) int {
	t.Helper()
	sure, least, first := needed(t, l), 9, api.Plan{}
	for cores := 1; cores <= 8; cores++ {
		p, e := Admit(l, cores)
		if e == api.ErrAdmitFull && least == 9 && cores < sure && alike(p, api.Plan{}) {
			continue
		}
		if e != api.OK || len(p.Shapes) != len(l) {
			t.Fatal("they aren't admitted", l, cores, p, int(e))
		}
		if least == 9 {
			least, first = cores, p
		}
		if !alike(p, first) {
			t.Fatal("they were elsewhere", l, cores, p, first)
		}
		for more := cores; more <= 8; more++ {
			if !Right(p, more) {
				t.Fatal("what is admitted isn't right", l, cores, more, p)
			}
		}
	}
	if least > 1 && least < 9 && Right(first, least-1) {
		t.Fatal("the last core isn't needed", l, first)
	}
	return least
}

// P17.4: by chance: what is admitted is right; more cores admit what fewer do; as many as heavy ones need, and one for each light one, are enough.
func TestFollows(t *testing.T) {
	if n := holdFollows(t, nil); n != 1 {
		t.Error(n)
	}
	if n := holdFollows(t, example()); n != 3 {
		t.Error(n)
	}
	c := chance(3)
	leasts := [10]int{}
	for range 1000 {
		leasts[holdFollows(t, slices.DeleteFunc(c.tasks(), isGreedy))]++
	}
	if slices.Min(leasts[1:]) < 20 {
		t.Error("too few of a kind", leasts)
	}
}

// P17.4: as many cores as heavy ones need, and one for each light one, of tasks that fill all of these: just so many are enough, one less isn't, wherever the heavy ones stand.
func TestJustEnough(t *testing.T) {
	for lighter := range 9 {
		for heavier := 0; lighter+2*heavier <= 8; heavier++ {
			for extra := 0; lighter+2*heavier+extra <= 8 && (heavier > 0 || extra == 0); extra++ {
				all := lights(4, slices.Repeat([]int{3}, lighter)...)
				for i := range heavier {
					d := heavy(2)
					if i == 0 {
						d = heavy(2 + extra)
					}
					all = slices.Insert(all, (3*i)%(len(all)+1), d)
				}
				want := max(1, lighter+2*heavier+extra)
				if n := holdFollows(t, all); n != want {
					t.Error(lighter, heavier, extra, n, want)
				}
			}
		}
	}
}

// holdWhole holds of a plan that each core of a heavy task is told to be its own, and that all light ones are told, each just once.
func holdWhole(t *testing.T, p api.Plan, cores int) {
	t.Helper()
	seen := make([]int, len(p.Shapes))
	for core := range cores {
		h, l := Heavy(p, core), Light(p, core)
		if h >= 0 && len(l) > 0 {
			t.Fatal("a heavy task shares a core", p, core)
		}
		if h >= 0 {
			seen[h]++
		}
		for _, i := range l {
			seen[i]++
		}
	}
	for i, s := range p.Shapes {
		if n, e := class.Cores(s); e != api.OK || n != seen[i] {
			t.Fatal("a task hasn't the cores that it needs", p, i, seen[i])
		}
	}
}

// P17.4: what is admitted has, by what Heavy and Light tell of each core, just the cores that it needs; heavy ones have them alone.
func TestWhole(t *testing.T) {
	c := chance(4)
	admitted := 0
	for range 1000 {
		cores := 1 + c.next(8)
		if p, e := Admit(c.tasks(), cores); e == api.OK {
			holdWhole(t, p, cores)
			admitted++
		}
	}
	if admitted < 300 {
		t.Error("too few of a kind", admitted)
	}
}
