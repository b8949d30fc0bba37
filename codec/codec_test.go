package codec

import (
	"encoding/binary"
	"errors"
	"hash/crc32"
	"math"
	"slices"
	"strconv"
	"strings"
	"testing"

	"trefoil/api"
	"trefoil/desc"
)

// field is a number of a task's bytes, and how many bytes it has.
type field struct{ width, n int }

// fields is the numbers of a task behind the version, in the chapter's order and widths, whether the task may be or not.
func fields(d api.Desc) []field {
	l := []field{{1, len(d.Parts)}, {1, len(d.Edges)}, {1, len(d.Futures)}, {1, len(d.Barriers)}, {4, d.Period}, {4, d.Deadline}}
	for _, p := range d.Parts {
		l = append(l, field{1, int(p.Op)}, field{4, p.Arg}, field{2, p.Work})
	}
	for _, e := range d.Edges {
		l = append(l, field{1, e.From}, field{1, e.To})
	}
	for _, f := range d.Futures {
		l = append(l, field{1, f.Maker}, field{1, f.User}, field{2, f.At})
	}
	for _, b := range d.Barriers {
		l = append(l, field{1, len(b.In)}, field{1, len(b.Out)})
		for _, n := range slices.Concat(b.In, b.Out) {
			l = append(l, field{1, n})
		}
	}
	return l
}

// plain is a task's bytes but for the sum, whether it may be or not.
func plain(d api.Desc) string {
	b := []byte("dag1\x01")
	for _, f := range fields(d) {
		for i := range f.width {
			b = append(b, byte(f.n>>(8*i)))
		}
	}
	return string(b)
}

// sealed is bytes with the sum behind them.
func sealed(text string) string {
	return string(binary.LittleEndian.AppendUint32([]byte(text), crc32.ChecksumIEEE([]byte(text))))
}

// edges is an edge from the first to the second number, from the third to the fourth, and so on.
func edges(ends ...int) []api.Edge {
	var l []api.Edge
	for i := 0; i+1 < len(ends); i += 2 {
		l = append(l, api.Edge{From: ends[i], To: ends[i+1]})
	}
	return l
}

// alone is a task of one part.
func alone() api.Desc {
	return api.Desc{Period: 8, Deadline: 5, Parts: []api.Part{{Op: api.OpMix, Arg: 0x01020304, Work: 7}}}
}

// smallest is a task with the least of each number.
func smallest() api.Desc {
	return api.Desc{Period: 1, Deadline: 1, Parts: []api.Part{{Op: api.OpInput, Arg: 0, Work: 1}}}
}

// rich is a task in which there is each thing, twice or more, with numbers of more than one byte.
func rich() api.Desc {
	return api.Desc{
		Period: 2048, Deadline: 1027,
		Parts: []api.Part{
			{Op: api.OpInput, Arg: 3, Work: 1}, {Op: api.OpConst, Arg: 70000, Work: 4}, {Op: api.OpMix, Arg: 1 << 30, Work: 20}, {Op: api.OpProd, Arg: 258, Work: 30}, {Op: api.OpMax, Arg: 5, Work: 8},
		},
		Edges:    edges(1, 2, 0, 2, 2, 3),
		Futures:  []api.Future{{Maker: 0, User: 2, At: 9}, {Maker: 1, User: 3, At: 5}, {Maker: 1, User: 2, At: 4}},
		Barriers: []api.Barrier{{In: []int{0, 2}, Out: []int{1, 3, 4}}, {In: []int{1}, Out: []int{0, 4}}},
	}
}

// full is a task of as much of each thing as there may be, and of the greatest numbers.
func full() api.Desc {
	d := api.Desc{Period: api.MaxPeriod, Deadline: api.MaxPeriod, Parts: make([]api.Part, api.MaxParts)}
	for i := range d.Parts {
		d.Parts[i] = api.Part{Op: api.OpMix, Arg: api.MaxArg, Work: api.MaxPartWork}
	}
	for a := 0; len(d.Edges) < api.MaxJoins; a++ {
		for b := a + 1; b < api.MaxParts && len(d.Edges) < api.MaxJoins; b++ {
			d.Edges = append(d.Edges, api.Edge{From: a, To: b})
		}
	}
	for i := range api.MaxFutures {
		d.Futures = append(d.Futures, api.Future{Maker: i, User: (i + 1) % api.MaxParts, At: api.MaxPartWork - 1})
	}
	for i := range api.MaxBarriers {
		b := api.Barrier{}
		for n := range api.MaxParts {
			if n <= 4*i {
				b.In = append(b.In, n)
			} else {
				b.Out = append(b.Out, n)
			}
		}
		d.Barriers = append(d.Barriers, b)
	}
	return d
}

// chance hands out numbers below a bound, always the same ones.
type chance uint64

func (c *chance) next(below int) int {
	*c = *c*6364136223846793005 + 1442695040888963407
	return int(uint64(*c)>>33) % below
}

// barrier is a barrier that may be, of so many parts (two at least).
func (c *chance) barrier(parts int) api.Barrier {
	side := [2][]int{}
	for len(side[0]) == 0 || len(side[1]) == 0 {
		side = [2][]int{}
		for n := range parts {
			if k := c.next(3); k < 2 {
				side[k] = append(side[k], n)
			}
		}
	}
	return api.Barrier{In: side[0], Out: side[1]}
}

// task is a task that may be: of few things or of many.
func (c *chance) task() api.Desc {
	d := api.Desc{Period: 1 << c.next(13)}
	d.Deadline = 1 + c.next(d.Period)
	for range 1 + c.next(api.MaxParts) {
		d.Parts = append(d.Parts, api.Part{Op: api.Op(c.next(6)), Arg: c.next(1 << c.next(32)), Work: 1 + c.next(api.MaxPartWork)})
	}
	count := len(d.Parts)
	for range c.next(api.MaxJoins + 1) {
		e := api.Edge{From: c.next(count), To: c.next(count)}
		if e.From != e.To && !slices.Contains(d.Edges, e) {
			d.Edges = append(d.Edges, e)
		}
	}
	for range c.next(api.MaxFutures + 1) {
		f := api.Future{Maker: c.next(count), User: c.next(count), At: 1 + c.next(api.MaxPartWork)}
		clashes := func(other api.Future) bool { return other.User == f.User && other.At == f.At }
		if f.Maker != f.User && f.At < d.Parts[f.User].Work && !slices.ContainsFunc(d.Futures, clashes) {
			d.Futures = append(d.Futures, f)
		}
	}
	for range c.next(api.MaxBarriers + 1) {
		if count > 1 {
			d.Barriers = append(d.Barriers, c.barrier(count))
		}
	}
	return d
}

// tasks hands out many tasks that may be: those of above, and some by chance.
func tasks(many int, give func(d api.Desc)) {
	for _, d := range []api.Desc{alone(), smallest(), rich(), full()} {
		give(d)
	}
	c := chance(6)
	for range many {
		give(c.task())
	}
}

// copied is a task that shares nothing with another one.
func copied(d api.Desc) api.Desc {
	d.Parts, d.Edges, d.Futures, d.Barriers = slices.Clone(d.Parts), slices.Clone(d.Edges), slices.Clone(d.Futures), slices.Clone(d.Barriers)
	for i, b := range d.Barriers {
		d.Barriers[i] = api.Barrier{In: slices.Clone(b.In), Out: slices.Clone(b.Out)}
	}
	return d
}

// wrong is bytes that are no task, the error, and where it is.
type wrong struct {
	s        string
	e        api.Errno
	from, to int
}

// brief is bytes as a failed test tells them: how many, and the first ones.
func brief(s string) string {
	return strconv.Itoa(len(s)) + " bytes, " + strconv.Quote(s[:min(len(s), 100)])
}

// hold holds Decode and Why of bytes that are no task against what is to be told.
func hold(t *testing.T, x wrong) {
	t.Helper()
	d, e := Decode(x.s)
	span, f, is := Why(x.s)
	if e != x.e || !desc.Same(d, api.Desc{}) || f != x.e || !is || span != (api.Span{From: x.from, To: x.to}) {
		t.Fatalf("%s: Decode %d, Why %v %d %v; want %d %d %d", brief(x.s), e, span, f, is, x.from, x.to, x.e)
	}
}

// holdRight holds Decode and Why of a task's bytes against the task.
func holdRight(t *testing.T, s string, want api.Desc) {
	t.Helper()
	if d, e := Decode(s); e != api.OK || !desc.Same(d, want) {
		t.Fatalf("%s: Decode %v %d", brief(s), d, e)
	}
	if span, e, is := Why(s); span != (api.Span{}) || e != api.OK || is {
		t.Fatalf("%s: Why %v %d %v", brief(s), span, e, is)
	}
}

// P6.1: the chapter's example, and the bytes of tasks, one by one.
func TestEncode(t *testing.T) {
	for i, x := range []struct {
		d    api.Desc
		want string
	}{
		{alone(), "dag1\x01" + "\x01\x00\x00\x00" + "\x08\x00\x00\x00" + "\x05\x00\x00\x00" + "\x05\x04\x03\x02\x01\x07\x00"},
		{smallest(), "dag1\x01" + "\x01\x00\x00\x00" + "\x01\x00\x00\x00" + "\x01\x00\x00\x00" + "\x00\x00\x00\x00\x00\x01\x00"},
		{api.Desc{Period: 4096, Deadline: 4096, Parts: []api.Part{{Op: api.OpProd, Arg: api.MaxArg, Work: 100}}},
			"dag1\x01" + "\x01\x00\x00\x00" + "\x00\x10\x00\x00" + "\x00\x10\x00\x00" + "\x03\xff\xff\xff\x7f\x64\x00"},
		{rich(), "dag1\x01" + "\x05\x03\x03\x02" + "\x00\x08\x00\x00" + "\x03\x04\x00\x00" +
			"\x00\x03\x00\x00\x00\x01\x00" + "\x01\x70\x11\x01\x00\x04\x00" + "\x05\x00\x00\x00\x40\x14\x00" + "\x03\x02\x01\x00\x00\x1e\x00" + "\x04\x05\x00\x00\x00\x08\x00" +
			"\x01\x02" + "\x00\x02" + "\x02\x03" +
			"\x00\x02\x09\x00" + "\x01\x03\x05\x00" + "\x01\x02\x04\x00" +
			"\x02\x03\x00\x02\x01\x03\x04" + "\x01\x02\x01\x00\x04"},
	} {
		if s, e := Encode(x.d); e != api.OK || s != sealed(x.want) {
			t.Errorf("%d: %q %d", i, s, e)
		}
	}
	if s, e := Encode(alone()); e != api.OK || len(s) != 28 {
		t.Error("a task of one part alone has 28 bytes", len(s), e)
	}
	if s, e := Encode(full()); e != api.OK || len(s) != 17+16*7+48*2+16*4+4*(2+16)+4 {
		t.Error("a task with as much of each thing as there may be", len(s), e)
	}
	tasks(500, func(d api.Desc) {
		if s, e := Encode(d); e != api.OK || s != sealed(plain(d)) {
			t.Fatalf("%v: %q %d", d, s, e)
		}
	})
}

// spoilt is a way to make a rich task wrong, and its error.
type spoilt struct {
	e     api.Errno
	spoil func(d *api.Desc)
}

// faults are ways to make a rich task wrong that its bytes can tell, of each of chapter 5's errors.
func faults() []spoilt {
	return []spoilt{
		{api.ErrDescMany, func(d *api.Desc) { d.Parts = nil }},
		{api.ErrDescMany, func(d *api.Desc) { d.Parts = append(d.Parts, make([]api.Part, 250)...) }},
		{api.ErrDescMany, func(d *api.Desc) { d.Parts = append(d.Parts, make([]api.Part, 12)...) }},
		{api.ErrDescMany, func(d *api.Desc) { d.Edges = append(d.Edges, make([]api.Edge, 46)...) }},
		{api.ErrDescMany, func(d *api.Desc) { d.Futures = append(d.Futures, make([]api.Future, 14)...) }},
		{api.ErrDescMany, func(d *api.Desc) { d.Barriers = append(d.Barriers, make([]api.Barrier, 3)...) }},
		{api.ErrDescTime, func(d *api.Desc) { d.Period = 0 }},
		{api.ErrDescTime, func(d *api.Desc) { d.Period = 2049 }},
		{api.ErrDescTime, func(d *api.Desc) { d.Period = 8192 }},
		{api.ErrDescTime, func(d *api.Desc) { d.Period = math.MaxUint32 }},
		{api.ErrDescTime, func(d *api.Desc) { d.Deadline = 0 }},
		{api.ErrDescTime, func(d *api.Desc) { d.Deadline = 2049 }},
		{api.ErrDescTime, func(d *api.Desc) { d.Deadline = math.MaxUint32 }},
		{api.ErrDescPart, func(d *api.Desc) { d.Parts[4].Op = 6 }},
		{api.ErrDescPart, func(d *api.Desc) { d.Parts[0].Op = 255 }},
		{api.ErrDescPart, func(d *api.Desc) { d.Parts[1].Arg = 1 << 31 }},
		{api.ErrDescPart, func(d *api.Desc) { d.Parts[1].Arg = math.MaxUint32 }},
		{api.ErrDescPart, func(d *api.Desc) { d.Parts[3].Work = 0 }},
		{api.ErrDescPart, func(d *api.Desc) { d.Parts[3].Work = 101 }},
		{api.ErrDescPart, func(d *api.Desc) { d.Parts[3].Work = 1<<8 + 30 }},
		{api.ErrDescEdge, func(d *api.Desc) { d.Edges[0].To = 5 }},
		{api.ErrDescEdge, func(d *api.Desc) { d.Edges[2].From = 255 }},
		{api.ErrDescEdge, func(d *api.Desc) { d.Edges[1].From = 2 }},
		{api.ErrDescEdge, func(d *api.Desc) { d.Edges[2] = d.Edges[1] }},
		{api.ErrDescFuture, func(d *api.Desc) { d.Futures[2].Maker = 5 }},
		{api.ErrDescFuture, func(d *api.Desc) { d.Futures[2].User = 1 }},
		{api.ErrDescFuture, func(d *api.Desc) { d.Futures[1].At = 0 }},
		{api.ErrDescFuture, func(d *api.Desc) { d.Futures[1].At = 30 }},
		{api.ErrDescFuture, func(d *api.Desc) { d.Futures[1].At = 1<<8 + 5 }},
		{api.ErrDescFuture, func(d *api.Desc) { d.Futures[2].At = 9 }},
		{api.ErrDescBarrier, func(d *api.Desc) { d.Barriers[0].In = nil }},
		{api.ErrDescBarrier, func(d *api.Desc) { d.Barriers[1].Out = nil }},
		{api.ErrDescBarrier, func(d *api.Desc) { d.Barriers[0].Out[2] = 5 }},
		{api.ErrDescBarrier, func(d *api.Desc) { d.Barriers[0].In[1] = 0 }},
		{api.ErrDescBarrier, func(d *api.Desc) { d.Barriers[1].Out[0] = 1 }},
		{api.ErrDescBarrier, func(d *api.Desc) { d.Barriers[1].In = make([]int, 255) }},
	}
}

// P6.1: Encode of tasks that may not be: each of chapter 5's errors, two at once, and numbers that would look right if they were cut to their width.
func TestEncodeWrong(t *testing.T) {
	try := func(want api.Errno, spoils ...func(d *api.Desc)) {
		t.Helper()
		d := rich()
		for _, spoil := range spoils {
			spoil(&d)
		}
		if s, e := Encode(d); s != "" || e != want || e != desc.Check(d) {
			t.Errorf("%v: %q %d, want %d", d, s, e, want)
		}
	}
	for _, first := range faults() {
		try(first.e, first.spoil)
	}
	try(api.ErrDescMany, func(d *api.Desc) { *d = api.Desc{} })
	try(api.ErrDescMany, func(d *api.Desc) { d.Edges = append(d.Edges, make([]api.Edge, 256)...) })
	try(api.ErrDescTime, func(d *api.Desc) { d.Period, d.Deadline = 1<<32+2048, 1<<32+1 })
	try(api.ErrDescPart, func(d *api.Desc) { d.Parts[0].Arg = 1<<32 + 3 }, func(d *api.Desc) { d.Edges = edges(7, 7) })
	for _, far := range []int{-1, math.MinInt, 1 << 8, 1 << 16, 1 << 32, 1 << 40, math.MaxInt - 255} {
		try(api.ErrDescTime, func(d *api.Desc) { d.Period += far })
		try(api.ErrDescTime, func(d *api.Desc) { d.Deadline = far | 1<<12 })
		try(api.ErrDescPart, func(d *api.Desc) { d.Parts[0].Op += api.Op(far) })
		try(api.ErrDescPart, func(d *api.Desc) { d.Parts[0].Work += far &^ 0xff })
		try(api.ErrDescEdge, func(d *api.Desc) { d.Edges[1].From += far })
		try(api.ErrDescFuture, func(d *api.Desc) { d.Futures[0].Maker += far })
		try(api.ErrDescFuture, func(d *api.Desc) { d.Futures[0].At += far &^ 0xff })
		try(api.ErrDescBarrier, func(d *api.Desc) { d.Barriers[0].In[0] += far })
	}
}

// P6.2, P6.3, P6.4: what is encoded is decoded, the same as before, and Why tells nothing of it.
func TestDecode(t *testing.T) {
	seen := map[string]int{}
	tasks(2000, func(d api.Desc) {
		s, e := Encode(d)
		if e != api.OK {
			t.Fatal(d, e)
		}
		holdRight(t, s, d)
		seen[s]++
	})
	if len(seen) < 1900 {
		t.Error("too few tasks that differ", len(seen))
	}
	// Bytes that no call of Encode made.
	s := sealed("dag1\x01" + "\x02\x01\x01\x00" + "\x00\x02\x00\x00" + "\x2c\x01\x00\x00" + "\x02\x00\x00\x00\x00\x03\x00" + "\x01\x02\x01\x00\x80\x00\x00" + "\x01\x00" + "\x01\x00\x02\x00")
	hold(t, wrong{s, api.ErrDescPart, 5, len(s) - 4})
	s = sealed("dag1\x01" + "\x02\x01\x01\x01" + "\x00\x02\x00\x00" + "\x2c\x01\x00\x00" + "\x02\x00\x00\x00\x00\x03\x00" + "\x01\x02\x01\x00\x70\x09\x00" + "\x01\x00" + "\x01\x00\x02\x00" + "\x01\x01\x00\x01")
	holdRight(t, s, api.Desc{
		Period: 512, Deadline: 300,
		Parts:    []api.Part{{Op: api.OpSum, Work: 3}, {Op: api.OpConst, Arg: 0x70000102, Work: 9}},
		Edges:    edges(1, 0),
		Futures:  []api.Future{{Maker: 1, User: 0, At: 2}},
		Barriers: []api.Barrier{{In: []int{0}, Out: []int{1}}},
	})
}

// P6.4: two tasks that differ in one number alone have different bytes.
func TestEncodeDiffers(t *testing.T) {
	first, _ := Encode(rich())
	for i, change := range []func(d *api.Desc){
		func(d *api.Desc) { d.Period = 4096 },
		func(d *api.Desc) { d.Deadline++ },
		func(d *api.Desc) { d.Parts[3].Op = api.OpSum },
		func(d *api.Desc) { d.Parts[3].Arg += 1 << 24 },
		func(d *api.Desc) { d.Parts[0].Work++ },
		func(d *api.Desc) { d.Edges[2].From = 4 },
		func(d *api.Desc) { d.Edges[2].To = 4 },
		func(d *api.Desc) { slices.Reverse(d.Edges) },
		func(d *api.Desc) { d.Edges = d.Edges[:2] },
		func(d *api.Desc) { d.Futures[2].Maker = 4 },
		func(d *api.Desc) { d.Futures[2].User = 3 },
		func(d *api.Desc) { d.Futures[2].At = 5 },
		func(d *api.Desc) { slices.Reverse(d.Futures) },
		func(d *api.Desc) { d.Futures = nil },
		func(d *api.Desc) { d.Barriers[1].In[0] = 3 },
		func(d *api.Desc) { d.Barriers[1].Out[1] = 3 },
		func(d *api.Desc) { d.Barriers[0].In, d.Barriers[0].Out = d.Barriers[0].Out, d.Barriers[0].In },
		func(d *api.Desc) { d.Barriers[0].In, d.Barriers[0].Out = []int{0}, []int{1, 2, 3, 4} },
		func(d *api.Desc) { slices.Reverse(d.Barriers) },
	} {
		d := rich()
		change(&d)
		s, e := Encode(d)
		if e != api.OK || s == first {
			t.Error(i, e)
		}
		holdRight(t, s, d)
	}
}

// P6.2, P6.3: fewer than 21 bytes, with a right sum and with none, are too few, whatever they are; 21 are not.
func TestShort(t *testing.T) {
	task := sealed(plain(rich()))
	for n := range 21 {
		for _, s := range []string{task[:n], strings.Repeat("\x00", n), strings.Repeat("\xff", n), strings.Repeat("dag1\x01", 5)[:n]} {
			hold(t, wrong{s, api.ErrCodecShort, 0, n})
		}
		if n >= 4 {
			hold(t, wrong{sealed(task[:n-4]), api.ErrCodecShort, 0, n})
			hold(t, wrong{sealed(strings.Repeat("x", n-4)), api.ErrCodecShort, 0, n})
		}
	}
	hold(t, wrong{task[:21], api.ErrCodecSum, 17, 21})
	hold(t, wrong{strings.Repeat("\x00", 21), api.ErrCodecSum, 17, 21})
	hold(t, wrong{sealed(strings.Repeat("\x00", 17)), api.ErrCodecMagic, 0, 4})
	hold(t, wrong{sealed("dag1" + strings.Repeat("\x00", 13)), api.ErrCodecVersion, 4, 5})
	hold(t, wrong{sealed("dag1\x01" + strings.Repeat("\x00", 12)), api.ErrDescMany, 5, 17})
	hold(t, wrong{sealed("dag1\x01\x01" + strings.Repeat("\x00", 11)), api.ErrCodecCut, 17, 17})
}

// P6.2, P6.3: one bit turned at each place, bytes left out, doubled or exchanged: the sum isn't right any more.
func TestSum(t *testing.T) {
	for _, d := range []api.Desc{alone(), smallest(), rich(), full()} {
		s := sealed(plain(d))
		for at := range len(s) {
			for bit := range 8 {
				b := []byte(s)
				b[at] ^= 1 << bit
				hold(t, wrong{string(b), api.ErrCodecSum, len(s) - 4, len(s)})
			}
		}
		for k := 21; k < len(s); k++ {
			hold(t, wrong{s[:k], api.ErrCodecSum, k - 4, k})
		}
		for _, more := range []string{"\x00", "a", s} {
			hold(t, wrong{s + more, api.ErrCodecSum, len(s+more) - 4, len(s + more)})
		}
		n := len(s) - 4
		hold(t, wrong{s[:n] + string([]byte{s[n+3], s[n+2], s[n+1], s[n]}), api.ErrCodecSum, n, n + 4})
	}
}

// P6.2, P6.3: bytes with a right sum that begin otherwise, or are of another version.
func TestMagicVersion(t *testing.T) {
	for _, d := range []api.Desc{alone(), rich(), full()} {
		text := plain(d)
		for at := range 4 {
			for b := range 256 {
				if byte(b) != text[at] {
					hold(t, wrong{sealed(text[:at] + string([]byte{byte(b)}) + text[at+1:]), api.ErrCodecMagic, 0, 4})
				}
			}
		}
		for b := range 256 {
			if b != 1 {
				hold(t, wrong{sealed("dag1" + string([]byte{byte(b)}) + text[5:]), api.ErrCodecVersion, 4, 5})
			}
		}
		for _, other := range []string{"DAG1", "gad1", "1gad", "\x01dag"} {
			hold(t, wrong{sealed(other + text[4:]), api.ErrCodecMagic, 0, 4})
		}
		hold(t, wrong{sealed(" " + text), api.ErrCodecMagic, 0, 4})
		hold(t, wrong{sealed(text[1:]), api.ErrCodecMagic, 0, 4})
	}
}

// P6.2, P6.3: bytes with a right sum that end too early, at each place: the first number that isn't there, or is there in part, is told.
func TestCut(t *testing.T) {
	parts := 0
	tasks(60, func(d api.Desc) {
		text := plain(d)
		at := 5
		for _, f := range fields(d) {
			for k := at; k < at+f.width; k++ {
				if k < 17 {
					continue
				}
				if k > at {
					parts++
				}
				hold(t, wrong{sealed(text[:k]), api.ErrCodecCut, at, k})
			}
			at += f.width
		}
		if at != len(text) {
			t.Fatal(d, at)
		}
	})
	if parts < 100 {
		t.Error("too few numbers that are there in part", parts)
	}
	// A number of things that is too great for the bytes that are there.
	text := plain(rich())
	n := len(text)
	hold(t, wrong{sealed(text[:8] + "\x03" + text[9:]), api.ErrCodecCut, n, n})
	hold(t, wrong{sealed(text[:8] + "\xff" + text[9:]), api.ErrCodecCut, n, n})
	hold(t, wrong{sealed(text[:n-5] + "\x02" + text[n-4:]), api.ErrCodecCut, n, n})
	hold(t, wrong{sealed(text[:n-4] + "\xff" + text[n-3:]), api.ErrCodecCut, n, n})
	hold(t, wrong{sealed(text[:5] + "\xff\xff\xff\xff" + text[9:17]), api.ErrCodecCut, 17, 17})
}

// P6.2, P6.3: bytes behind all, with a right sum.
func TestTail(t *testing.T) {
	tasks(60, func(d api.Desc) {
		text := plain(d)
		for _, more := range []string{"\x00", "a", "\xff\xff", sealed(text)[len(text):], text, strings.Repeat("\x01", 1000)} {
			hold(t, wrong{sealed(text + more), api.ErrCodecTail, len(text), len(text + more)})
		}
	})
	text := plain(rich())
	n := len(text)
	hold(t, wrong{sealed(text[:8] + "\x01" + text[9:]), api.ErrCodecTail, n - 5, n})
	hold(t, wrong{sealed(text[:8] + "\x00" + text[9:]), api.ErrCodecTail, n - 12, n})
	hold(t, wrong{sealed(text[:n-4] + "\x01" + text[n-3:]), api.ErrCodecTail, n - 1, n})
}

// P6.2, P6.3: bytes of tasks that may not be, with a right sum: chapter 5's errors, alone, and each with each other one.
func TestDecodeWrong(t *testing.T) {
	seen := map[api.Errno]int{}
	for _, first := range faults() {
		d := rich()
		first.spoil(&d)
		text := plain(d)
		hold(t, wrong{sealed(text), first.e, 5, len(text)})
		seen[first.e]++
		for _, other := range faults() {
			if other.e > first.e {
				d := rich()
				// The later one first: it needs what the other may take away.
				other.spoil(&d)
				first.spoil(&d)
				text := plain(d)
				hold(t, wrong{sealed(text), first.e, 5, len(text)})
			}
		}
	}
	if len(seen) != 6 {
		t.Error("not each of chapter 5's errors is tried", seen)
	}
}

// P6.2, P6.3: of several errors at once the first one is told.
func TestFirst(t *testing.T) {
	text := plain(rich())
	n := len(text)
	timeless := text[:9] + "\x03" + text[10:]
	many := text[:5] + "\x00\x00\x00\x00" + text[9:17]
	for _, x := range []wrong{
		{sealed("dog1" + text[4:16]), api.ErrCodecShort, 0, 20},
		{sealed("dag1\x02" + text[5:16]), api.ErrCodecShort, 0, 20},
		{"dog1" + text[4:] + "aaaa", api.ErrCodecSum, n, n + 4},
		{"dag1\x02" + text[5:] + "aaaa", api.ErrCodecSum, n, n + 4},
		{text[:n-1] + "aaaa", api.ErrCodecSum, n - 1, n + 3},
		{text + "aaaaa", api.ErrCodecSum, n + 1, n + 5},
		{timeless + "aaaa", api.ErrCodecSum, n, n + 4},
		{sealed("dog1\x02" + text[5:]), api.ErrCodecMagic, 0, 4},
		{sealed("dog1\x02" + text[5:n-1]), api.ErrCodecMagic, 0, 4},
		{sealed("dog1" + text[4:] + "a"), api.ErrCodecMagic, 0, 4},
		{sealed("dog1" + timeless[4:]), api.ErrCodecMagic, 0, 4},
		{sealed("dag1\x02" + text[5:n-1]), api.ErrCodecVersion, 4, 5},
		{sealed("dag1\x02" + text[5:] + "a"), api.ErrCodecVersion, 4, 5},
		{sealed("dag1\x02" + timeless[5:]), api.ErrCodecVersion, 4, 5},
		{sealed(timeless[:n-1]), api.ErrCodecCut, n - 1, n - 1},
		// 255 parts, of which the tenth has an Op and one byte of its Arg
		{sealed(text[:5] + "\xff" + text[6:]), api.ErrCodecCut, n - 1, n},
		{sealed(timeless + "a"), api.ErrCodecTail, n, n + 1},
		{sealed(many + "a"), api.ErrCodecTail, 17, 18},
		{sealed(many), api.ErrDescMany, 5, 17},
	} {
		hold(t, x)
	}
}

// places is where each number of bytes of a task begins, and behind them where the last one ends, as far as the numbers of things are there.
func places(text string) []int {
	l := []int{0, 4, 5, 6, 7, 8, 9, 13, 17}
	add := func(widths ...int) {
		for _, width := range widths {
			l = append(l, l[len(l)-1]+width)
		}
	}
	for range text[5] {
		add(1, 4, 2)
	}
	for range text[6] {
		add(1, 1)
	}
	for range text[7] {
		add(1, 1, 2)
	}
	for range text[8] {
		at := l[len(l)-1]
		add(1, 1)
		if at+2 > len(text) {
			break
		}
		for range int(text[at]) + int(text[at+1]) {
			add(1)
		}
	}
	return l
}

// assembled is the task whose numbers stand at places, whether it may be or not.
func assembled(text string, l []int) api.Desc {
	next := func() int {
		n := 0
		for i := l[1] - 1; i >= l[0]; i-- {
			n = n<<8 | int(text[i])
		}
		l = l[1:]
		return n
	}
	next()
	next()
	d := api.Desc{Parts: make([]api.Part, next()), Edges: make([]api.Edge, next()), Futures: make([]api.Future, next()), Barriers: make([]api.Barrier, next())}
	d.Period, d.Deadline = next(), next()
	for i := range d.Parts {
		d.Parts[i] = api.Part{Op: api.Op(next()), Arg: next(), Work: next()}
	}
	for i := range d.Edges {
		d.Edges[i] = api.Edge{From: next(), To: next()}
	}
	for i := range d.Futures {
		d.Futures[i] = api.Future{Maker: next(), User: next(), At: next()}
	}
	for i := range d.Barriers {
		b := api.Barrier{In: make([]int, next()), Out: make([]int, next())}
		for _, side := range [][]int{b.In, b.Out} {
			for j := range side {
				side[j] = next()
			}
		}
		d.Barriers[i] = b
	}
	return d
}

// byWords is what is to be told of bytes, as the chapter's words say it; OK: they are a task.
func byWords(s string) (api.Desc, wrong) {
	n := len(s) - 4
	if len(s) < 21 {
		return api.Desc{}, wrong{s, api.ErrCodecShort, 0, len(s)}
	}
	text := s[:n]
	switch {
	case sealed(text) != s:
		return api.Desc{}, wrong{s, api.ErrCodecSum, n, n + 4}
	case text[:4] != "dag1":
		return api.Desc{}, wrong{s, api.ErrCodecMagic, 0, 4}
	case text[4] != 1:
		return api.Desc{}, wrong{s, api.ErrCodecVersion, 4, 5}
	}
	l := places(text)
	for i := range l[1:] {
		if l[i+1] > n {
			return api.Desc{}, wrong{s, api.ErrCodecCut, l[i], n}
		}
	}
	if last := l[len(l)-1]; last < n {
		return api.Desc{}, wrong{s, api.ErrCodecTail, last, n}
	}
	d := assembled(text, l)
	if e := desc.Check(d); e != api.OK {
		return api.Desc{}, wrong{s, e, 5, n}
	}
	return d, wrong{}
}

// holdByWords holds Decode and Why, and Encode of what is decoded, against the chapter's words; what is told.
func holdByWords(t *testing.T, s string) api.Errno {
	t.Helper()
	d, x := byWords(s)
	if x.e != api.OK {
		hold(t, x)
		return x.e
	}
	holdRight(t, s, d)
	d, _ = Decode(s)
	if again, e := Encode(d); again != s || e != api.OK {
		t.Fatalf("%s is encoded as %q %d", brief(s), again, e)
	}
	return api.OK
}

// P6.2, P6.3, P6.4: each byte of a task's, set to each value, with a right sum: whatever is decoded is encoded as the very same bytes.
func TestEachByte(t *testing.T) {
	seen := map[api.Errno]int{}
	for _, d := range []api.Desc{alone(), rich()} {
		text := plain(d)
		for at := range len(text) {
			for b := range 256 {
				seen[holdByWords(t, sealed(text[:at]+string([]byte{byte(b)})+text[at+1:]))]++
			}
		}
	}
	for _, e := range []api.Errno{api.OK, api.ErrCodecMagic, api.ErrCodecVersion, api.ErrCodecCut, api.ErrCodecTail, api.ErrDescTime, api.ErrDescPart, api.ErrDescEdge, api.ErrDescFuture, api.ErrDescBarrier} {
		if seen[e] == 0 {
			t.Error("never told", e)
		}
	}
}

// P6.2, P6.3, P6.4: bytes that are changed in many ways, and bytes of all kinds, mostly with a right sum.
func TestManyBytes(t *testing.T) {
	c := chance(64)
	seen := map[api.Errno]int{}
	for range 40000 {
		b := []byte(plain(c.task()))
		for range c.next(4) {
			at, value := c.next(len(b)), byte(c.next(256)>>c.next(8))
			switch c.next(5) {
			case 0, 1:
				b[at] = value
			case 2:
				b = slices.Insert(b, at, value)
			case 3:
				b = slices.Delete(b, at, min(len(b), at+c.next(3)))
			case 4:
				at = 5 + c.next(4)
				b[at] += byte(c.next(5)) - 2
			}
		}
		s := sealed(string(b))
		if c.next(20) == 0 {
			s = string(b)
		}
		seen[holdByWords(t, s)]++
	}
	for range 20000 {
		b := []byte("dag1\x01" + strings.Repeat("\x00", 12+c.next(60)))
		for i := range b[5:] {
			b[5+i] = byte(c.next(256) >> c.next(12))
		}
		seen[holdByWords(t, sealed(string(b)))]++
		seen[holdByWords(t, sealed(string(b[5:])))]++
	}
	for e, least := range map[api.Errno]int{api.OK: 5000, api.ErrCodecShort: 100, api.ErrCodecSum: 500, api.ErrCodecMagic: 500, api.ErrCodecVersion: 50, api.ErrCodecCut: 500, api.ErrCodecTail: 500, api.ErrDescMany: 20, api.ErrDescTime: 100, api.ErrDescPart: 100, api.ErrDescEdge: 20, api.ErrDescFuture: 20, api.ErrDescBarrier: 20} {
		if seen[e] < least {
			t.Error("told too seldom", e, seen[e])
		}
	}
}

// P6.3: what is wrong is wrapped: whoever asks finds the error itself, and no other one.
func TestWrapped(t *testing.T) {
	text := plain(rich())
	all := []api.Errno{api.ErrCodecShort, api.ErrCodecSum, api.ErrCodecMagic, api.ErrCodecVersion, api.ErrCodecCut, api.ErrCodecTail, api.ErrDescTime}
	for i, s := range []string{"", text, sealed(text[1:]), sealed("dag1\x02" + text[5:]), sealed(text[:30]), sealed(text + "a"), sealed(text[:9] + "\x03" + text[10:])} {
		_, err := read(s)
		if err == nil || err.Error() == "" {
			t.Fatal(i, err)
		}
		for j, e := range all {
			if errors.Is(err, e) != (i == j) {
				t.Error(i, e, err)
			}
		}
	}
	if _, err := read(sealed(text)); err != nil {
		t.Error(err)
	}
}

// P1: bytes of any size are answered.
func TestGreat(t *testing.T) {
	long := strings.Repeat("dag1\x01\xff\xff\xff\xff", 100000)
	hold(t, wrong{long, api.ErrCodecSum, len(long) - 4, len(long)})
	// 255 of each thing, and 255 parts at each side of each barrier, all there.
	d := api.Desc{Parts: make([]api.Part, 255), Edges: make([]api.Edge, 255), Futures: make([]api.Future, 255), Barriers: make([]api.Barrier, 255)}
	for i := range d.Barriers {
		d.Barriers[i] = api.Barrier{In: make([]int, 255), Out: make([]int, 255)}
	}
	text := plain(d)
	hold(t, wrong{sealed(text), api.ErrDescMany, 5, len(text)})
	hold(t, wrong{sealed(text[:len(text)-1]), api.ErrCodecCut, len(text) - 1, len(text) - 1})
	hold(t, wrong{sealed(text + long), api.ErrCodecTail, len(text), len(text + long)})
}

// P1: nothing that is handed in is changed, the spare room of its rows included.
func TestKept(t *testing.T) {
	d := rich()
	d.Parts, d.Edges, d.Futures, d.Barriers = append(d.Parts, api.Part{Work: 7}), append(d.Edges, api.Edge{From: 7}), append(d.Futures, api.Future{At: 7}), append(d.Barriers, api.Barrier{In: []int{7}})
	d.Barriers[0].In = append(d.Barriers[0].In, 7)
	before := copied(d)
	short := d
	short.Parts, short.Edges, short.Futures, short.Barriers = d.Parts[:5], d.Edges[:3], d.Futures[:3], d.Barriers[:2]
	short.Barriers[0].In = short.Barriers[0].In[:2]
	if s, e := Encode(short); e != api.OK || s != sealed(plain(rich())) {
		t.Error(s, e)
	}
	d.Barriers[0].In = d.Barriers[0].In[:3]
	if !desc.Same(d, before) {
		t.Error("what is handed in is changed")
	}
}

// P1: what is handed out is new memory, and no two lists of it share any.
func TestNew(t *testing.T) {
	s := sealed(plain(rich()))
	first, _ := Decode(s)
	second, _ := Decode(s)
	for i := range first.Barriers {
		b := &first.Barriers[i]
		for _, side := range []*[]int{&b.In, &b.Out} {
			*side = append(*side, -99)
			(*side)[0] = -99
		}
	}
	for i, b := range rich().Barriers {
		got := first.Barriers[i]
		b.In[0], b.Out[0] = -99, -99
		if !slices.Equal(got.In, append(b.In, -99)) || !slices.Equal(got.Out, append(b.Out, -99)) {
			t.Error("two lists share memory", i)
		}
	}
	first.Parts[0].Work, first.Edges[0].To, first.Futures[0].At = -99, -99, -99
	if !desc.Same(second, rich()) {
		t.Error("two answers share memory")
	}
	holdRight(t, s, rich())
}
