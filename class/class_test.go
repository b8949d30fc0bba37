package class

import (
	"math"
	"slices"
	"testing"

	"trefoil/api"
)

// shape is a shape by its numbers.
func shape(total, long, most, deadline, period int) api.Shape {
	return api.Shape{Total: total, Long: long, Most: most, Deadline: deadline, Period: period}
}

// example is the chapter's.
func example() api.Shape { return shape(20, 4, 4, 8, 8) }

// periods are all that may be.
var periods = []int{1, 2, 4, 8, 16, 32, 64, 128, 256, 512, 1024, 2048, 4096}

// far are numbers far from all that may be, and such as look small when they are cut to 32 bits, or are powers of two.
var far = []int{math.MinInt, math.MinInt + 1, -1 << 32, -8, 1 << 32, 1<<32 + 1, 1<<32 + 4, 1 << 39, 1 << 40, 1 << 62, math.MaxInt}

// chance hands out numbers below a bound, always the same ones.
type chance uint64

func (c *chance) next(below int) int {
	*c = *c*6364136223846793005 + 1442695040888963407
	return int(uint64(*c)>>33) % below
}

// mayBe is whether a shape may be, by the chapter's words.
func mayBe(s api.Shape) bool {
	return s.Total >= 1 && s.Total <= 4096 && s.Long >= 1 && s.Long <= s.Total && s.Most >= 1 && s.Most <= s.Long &&
		slices.Contains(periods, s.Period) && s.Deadline >= 1 && s.Deadline <= s.Period
}

// coresByWords is how many cores a task needs, by the chapter's words: counted up to the first that is enough.
func coresByWords(s api.Shape) (int, api.Errno) {
	if !mayBe(s) {
		return 0, api.ErrClassForm
	}
	if s.Total <= s.Deadline {
		return 1, api.OK
	}
	if s.Long >= s.Deadline {
		return 0, api.ErrClassLong
	}
	for cores := 0; cores <= 8; cores++ {
		if cores*(s.Deadline-s.Long) >= s.Total-s.Long {
			return cores, api.OK
		}
	}
	return 0, api.ErrClassMany
}

// isBound is whether a number is what Bound tells, by the chapter's words: asked without a quotient.
func isBound(n int, s api.Shape, cores int) bool {
	if !mayBe(s) || cores < 1 || cores > 8 {
		return n == 0
	}
	all := s.Total
	for range cores - 1 {
		all += s.Long
	}
	return n*cores <= all && all < (n+1)*cores
}

// holdWords holds all that is told of a shape against the chapter's words.
func holdWords(t *testing.T, s api.Shape) {
	t.Helper()
	want := api.OK
	if !mayBe(s) {
		want = api.ErrClassForm
	}
	if e := Check(s); e != want {
		t.Fatal("Check", s, int(e))
	}
	if is := Heavy(s); is != (mayBe(s) && s.Total > s.Deadline) {
		t.Fatal("Heavy", s, is)
	}
	cores, want := coresByWords(s)
	if n, e := Cores(s); n != cores || e != want {
		t.Fatal("Cores", s, n, int(e))
	}
	for cores := -1; cores <= 10; cores++ {
		if n := Bound(s, cores); !isBound(n, s, cores) {
			t.Fatal("Bound", s, cores, n)
		}
	}
}

// P14.1, P14.2: the chapter's example.
func TestExample(t *testing.T) {
	s := example()
	n, e := Cores(s)
	if Check(s) != api.OK || !Heavy(s) || n != 4 || e != api.OK {
		t.Error(int(Check(s)), Heavy(s), n, int(e))
	}
	// 20, 24, 28, 32, 36, 40, 44 and 48, by the cores
	for i, want := range []int{0, 20, 12, 9, 8, 7, 6, 6, 6, 0} {
		if n := Bound(s, i); n != want {
			t.Error(i, n, want)
		}
	}
}

// P14.1: shapes that may be, at the edges; and such as may not be, by one number alone.
func TestCheck(t *testing.T) {
	for i, x := range []struct {
		s    api.Shape
		want api.Errno
	}{
		{shape(1, 1, 1, 1, 1), api.OK}, {shape(4096, 4096, 4096, 4096, 4096), api.OK}, {shape(4096, 1, 1, 1, 1), api.OK}, {shape(1, 1, 1, 1, 4096), api.OK},
		{shape(7, 7, 3, 3, 4), api.OK}, {shape(7, 6, 6, 4, 4), api.OK}, {shape(7, 6, 1, 1, 4), api.OK},
		{shape(0, 1, 1, 1, 1), api.ErrClassForm}, {shape(0, 0, 0, 1, 1), api.ErrClassForm}, {shape(-1, 1, 1, 1, 1), api.ErrClassForm}, {shape(4097, 1, 1, 1, 1), api.ErrClassForm}, {shape(4097, 4097, 4097, 4096, 4096), api.ErrClassForm},
		{shape(7, 0, 1, 1, 1), api.ErrClassForm}, {shape(7, 0, 0, 1, 1), api.ErrClassForm}, {shape(7, -1, -1, 1, 1), api.ErrClassForm}, {shape(7, 8, 1, 1, 1), api.ErrClassForm}, {shape(4096, 4097, 1, 1, 1), api.ErrClassForm},
		{shape(7, 6, 0, 1, 1), api.ErrClassForm}, {shape(7, 6, -1, 1, 1), api.ErrClassForm}, {shape(7, 6, 7, 1, 1), api.ErrClassForm}, {shape(7, 6, 8, 1, 1), api.ErrClassForm},
		{shape(7, 6, 5, 0, 8), api.ErrClassForm}, {shape(7, 6, 5, -1, 8), api.ErrClassForm}, {shape(7, 6, 5, 9, 8), api.ErrClassForm}, {shape(7, 6, 5, 2, 1), api.ErrClassForm}, {shape(7, 6, 5, 4097, 4096), api.ErrClassForm},
		{shape(7, 6, 5, 1, 0), api.ErrClassForm}, {shape(7, 6, 5, 0, 0), api.ErrClassForm}, {shape(7, 6, 5, 1, -1), api.ErrClassForm}, {shape(7, 6, 5, 1, -8), api.ErrClassForm}, {shape(7, 6, 5, 1, 8192), api.ErrClassForm}, {shape(7, 6, 5, 8192, 8192), api.ErrClassForm},
		{shape(7, 6, 5, 3, 3), api.ErrClassForm}, {shape(7, 6, 5, 1, 12), api.ErrClassForm}, {shape(7, 6, 5, 1, 4095), api.ErrClassForm}, {shape(7, 6, 5, 1, 4097), api.ErrClassForm},
		{api.Shape{}, api.ErrClassForm},
	} {
		if e := Check(x.s); e != x.want {
			t.Error(i, x.s, int(e))
		}
		holdWords(t, x.s)
	}
	for n := -10; n < 9000; n++ {
		holdWords(t, shape(7, 6, 5, 1, n))
		holdWords(t, shape(n, 1, 1, 8, 8))
		holdWords(t, shape(4096, n, 1, 8, 8))
		holdWords(t, shape(4096, 4000, n, 8, 8))
		holdWords(t, shape(100, 50, 25, n, 2048))
	}
}

// P14.1, P14.2, P1: each number one less and one more than it may be, and far off, alone and beside others.
func TestWrongNumbers(t *testing.T) {
	sizes := append([]int{-1, 0, 1, 2, 8, 9, 4095, 4096, 4097}, far...)
	times := append([]int{-1, 0, 1, 3, 8, 9, 4096, 4097, 8192}, far...)
	for _, total := range sizes {
		for _, long := range sizes {
			for _, deadline := range times {
				for _, period := range times {
					holdWords(t, shape(total, long, 1, deadline, period))
				}
			}
			for _, most := range sizes {
				holdWords(t, shape(total, long, most, 3, 8))
			}
		}
	}
	for _, n := range far {
		for i, s := range []api.Shape{
			shape(n, 4, 4, 8, 8), shape(20, n, 4, 8, 8), shape(20, 4, n, 8, 8), shape(20, 4, 4, n, 8), shape(20, 4, 4, 8, n),
			shape(n, n, n, n, n), shape(n, n, n, 8, 8), shape(20, 4, 4, n, n),
		} {
			cores, e := Cores(s)
			if Check(s) != api.ErrClassForm || Heavy(s) || cores != 0 || e != api.ErrClassForm || Bound(s, 4) != 0 {
				t.Error(i, s, cores, int(e))
			}
		}
	}
}

// P14.2: light tasks and heavy ones, how many cores each one needs, and the first error where several hold.
func TestCores(t *testing.T) {
	for i, x := range []struct {
		s     api.Shape
		heavy bool
		cores int
		e     api.Errno
	}{
		// Total as great as Deadline, one less and one more
		{shape(7, 4, 1, 8, 8), false, 1, api.OK}, {shape(8, 4, 1, 8, 8), false, 1, api.OK}, {shape(9, 4, 1, 8, 8), true, 2, api.OK},
		{shape(1, 1, 1, 1, 1), false, 1, api.OK}, {shape(2, 1, 1, 1, 1), true, 0, api.ErrClassLong},
		{shape(4096, 1, 1, 4096, 4096), false, 1, api.OK}, {shape(4096, 1, 1, 4095, 4096), true, 2, api.OK}, {shape(4096, 4096, 4096, 4096, 4096), false, 1, api.OK},
		// a light one's Long may be as great as Deadline
		{shape(8, 8, 8, 8, 8), false, 1, api.OK}, {shape(8, 8, 1, 8, 64), false, 1, api.OK}, {shape(8, 7, 1, 8, 8), false, 1, api.OK},
		// the period doesn't count, nor does the greatest node
		{shape(9, 4, 4, 8, 64), true, 2, api.OK}, {shape(8, 4, 4, 7, 8), true, 2, api.OK}, {shape(20, 4, 1, 8, 4096), true, 4, api.OK},
		// Long one less than Deadline, as great, and one more, of heavy ones
		{shape(9, 7, 1, 8, 8), true, 2, api.OK}, {shape(15, 7, 1, 8, 8), true, 8, api.OK}, {shape(9, 8, 1, 8, 8), true, 0, api.ErrClassLong}, {shape(9, 9, 1, 8, 8), true, 0, api.ErrClassLong}, {shape(10, 9, 1, 8, 8), true, 0, api.ErrClassLong}, {shape(4096, 4096, 1, 1, 1), true, 0, api.ErrClassLong},
		// quotients that come out even, and such as are rounded up
		{shape(12, 4, 4, 8, 8), true, 2, api.OK}, {shape(13, 4, 4, 8, 8), true, 3, api.OK}, {shape(15, 4, 4, 8, 8), true, 3, api.OK}, {shape(16, 4, 4, 8, 8), true, 3, api.OK}, {shape(17, 4, 4, 8, 8), true, 4, api.OK}, {shape(19, 4, 4, 8, 8), true, 4, api.OK}, {shape(20, 4, 4, 8, 8), true, 4, api.OK}, {shape(21, 4, 4, 8, 8), true, 5, api.OK},
		{shape(4095, 1, 1, 2048, 4096), true, 2, api.OK}, {shape(4096, 1, 1, 2048, 4096), true, 3, api.OK},
		// as many as there may be, and one more
		{shape(32, 4, 4, 8, 8), true, 7, api.OK}, {shape(33, 4, 4, 8, 8), true, 8, api.OK}, {shape(36, 4, 4, 8, 8), true, 8, api.OK}, {shape(37, 4, 4, 8, 8), true, 0, api.ErrClassMany}, {shape(40, 4, 4, 8, 8), true, 0, api.ErrClassMany}, {shape(41, 4, 4, 8, 8), true, 0, api.ErrClassMany}, {shape(16, 7, 1, 8, 8), true, 0, api.ErrClassMany}, {shape(4096, 1, 1, 2, 2), true, 0, api.ErrClassMany},
		// too many would be needed, and too long besides: that is told first; and ahead of both that it may not be
		{shape(4096, 8, 1, 8, 8), true, 0, api.ErrClassLong}, {shape(4096, 9, 1, 8, 8), true, 0, api.ErrClassLong},
		{shape(4097, 8, 1, 8, 8), false, 0, api.ErrClassForm}, {shape(4096, 8, 9, 8, 8), false, 0, api.ErrClassForm}, {shape(37, 4, 0, 8, 8), false, 0, api.ErrClassForm}, {shape(37, 4, 4, 8, 9), false, 0, api.ErrClassForm}, {shape(37, 38, 4, 8, 8), false, 0, api.ErrClassForm}, {shape(9, 4, 1, 8, 7), false, 0, api.ErrClassForm}, {shape(20, 4, 4, 0, 8), false, 0, api.ErrClassForm}, {shape(7, 4, 5, 8, 8), false, 0, api.ErrClassForm}, {api.Shape{}, false, 0, api.ErrClassForm},
	} {
		n, e := Cores(x.s)
		if is := Heavy(x.s); is != x.heavy || n != x.cores || e != x.e {
			t.Error(i, x.s, is, n, int(e))
		}
		holdWords(t, x.s)
	}
}

// P14.2: Bound by name: for each count of cores, at the edges, rounded down; and of cores and shapes that may not be.
func TestBound(t *testing.T) {
	for i, x := range []struct {
		s    api.Shape
		want [8]int
	}{
		{example(), [8]int{20, 12, 9, 8, 7, 6, 6, 6}},
		{shape(1, 1, 1, 1, 1), [8]int{1, 1, 1, 1, 1, 1, 1, 1}},
		// rounded down, it is the deadline on three cores already, though four are told (13 by 4)
		{shape(17, 4, 4, 8, 8), [8]int{17, 10, 8, 7, 6, 6, 5, 5}},
		{shape(9, 9, 9, 1, 1), [8]int{9, 9, 9, 9, 9, 9, 9, 9}},
		{shape(9, 1, 1, 1, 1), [8]int{9, 5, 3, 3, 2, 2, 2, 2}},
		{shape(8, 1, 1, 64, 64), [8]int{8, 4, 3, 2, 2, 2, 2, 1}},
		{shape(4096, 1, 1, 8, 8), [8]int{4096, 2048, 1366, 1024, 820, 683, 586, 512}},
		{shape(4096, 4096, 1, 8, 8), [8]int{4096, 4096, 4096, 4096, 4096, 4096, 4096, 4096}},
		{shape(4096, 4095, 1, 8, 8), [8]int{4096, 4095, 4095, 4095, 4095, 4095, 4095, 4095}},
	} {
		for cores := 1; cores <= 8; cores++ {
			if n := Bound(x.s, cores); n != x.want[cores-1] {
				t.Error(i, cores, n)
			}
		}
		for _, cores := range append([]int{-1, 0, 9, 10, 16}, far...) {
			if n := Bound(x.s, cores); n != 0 {
				t.Error(i, cores, n)
			}
		}
	}
	for i, s := range []api.Shape{
		{}, shape(4097, 4, 4, 8, 8), shape(0, 0, 0, 8, 8), shape(20, 21, 4, 8, 8), shape(20, 0, 4, 8, 8), shape(20, 4, 5, 8, 8), shape(20, 4, 0, 8, 8),
		shape(20, 4, 4, 9, 8), shape(20, 4, 4, 0, 8), shape(20, 4, 4, 8, 12), shape(20, 4, 4, 8, 8192), shape(math.MaxInt, math.MaxInt, 1, 8, 8),
	} {
		for cores := -1; cores <= 9; cores++ {
			if n := Bound(s, cores); n != 0 {
				t.Error(i, cores, n)
			}
		}
	}
}

// eachSmall hands out all small shapes that may be, with the least and the greatest Most of each.
func eachSmall(give func(s api.Shape)) {
	for _, period := range periods[:5] {
		for deadline := 1; deadline <= period; deadline++ {
			for total := 1; total <= 40; total++ {
				for long := 1; long <= total; long++ {
					give(shape(total, long, 1, deadline, period))
					give(shape(total, long, long, deadline, period))
				}
			}
		}
	}
}

// eachGreat hands out many shapes that may be, of all sizes: always the same ones.
func eachGreat(give func(s api.Shape)) {
	c := chance(14)
	for i := range 40000 {
		period := periods[c.next(len(periods))]
		deadline := 1 + c.next(period)
		total := 1 + c.next(4096)
		if i%2 == 0 {
			total = min(4096, 1+c.next(9*deadline))
		}
		long := 1 + c.next(total)
		if i%4 < 3 {
			long = 1 + c.next(min(deadline, total))
		}
		give(shape(total, long, 1+c.next(long), deadline, period))
	}
}

// P14.1, P14.2: all small shapes, and great ones by chance, against the chapter's words.
func TestAllShapes(t *testing.T) {
	kinds := map[api.Errno]int{}
	counts := [9]int{}
	hold := func(s api.Shape) {
		holdWords(t, s)
		n, e := Cores(s)
		kinds[e]++
		counts[n]++
	}
	eachSmall(hold)
	eachGreat(hold)
	if kinds[api.OK] < 1000 || kinds[api.ErrClassLong] < 1000 || kinds[api.ErrClassMany] < 1000 || slices.Min(counts[1:]) < 200 {
		t.Error("too few of a kind", kinds, counts)
	}
}

// P14.3: a shape's own numbers: on as many cores as are told Bound is at most Deadline; by one core less, or any lesser count, the words' quotient isn't reached, nor, not rounded, what Bound is the quotient of; a heavy task is told two cores at least.
func TestToldAreEnough(t *testing.T) {
	heavies := 0
	hold := func(s api.Shape) {
		n, e := Cores(s)
		if e != api.OK {
			return
		}
		if b := Bound(s, n); b > s.Deadline || b < s.Long {
			t.Fatal(s, n, b)
		}
		if Heavy(s) != (n >= 2) {
			t.Fatal(s, n)
		}
		for less := 1; less < n; less++ {
			heavies++
			if less*(s.Deadline-s.Long) >= s.Total-s.Long || s.Total+(less-1)*s.Long <= less*s.Deadline {
				t.Fatal(s, n, less)
			}
		}
	}
	eachSmall(hold)
	eachGreat(hold)
	if heavies < 10000 {
		t.Error("too few of a kind", heavies)
	}
}
