package edf

import (
	"testing"

	"trefoil/api"
)

// P15.2: shapes that fit, and such as don't: by one tick more of Total, or of Most, at the first time, at a middle one, and at the Horizon itself.
func TestFits(t *testing.T) {
	for i, x := range []struct {
		l    []api.Shape
		over int // the first time at which it is too much; 0: none
	}{
		{nil, 0}, {row(light(1, 1, 1, 1)), 0}, {row(light(4, 4, 4, 4)), 0}, {row(light(4, 1, 4, 4096)), 0}, {row(light(4096, 4096, 4096, 4096)), 0},
		// the example, and one tick more of each Total, and each Most
		{example(), 0}, {row(light(3, 2, 4, 4), light(4, 2, 8, 8)), 4}, {row(light(2, 2, 4, 4), light(5, 2, 8, 8)), 8}, {row(light(2, 2, 4, 4), light(4, 3, 8, 8)), 4},
		// the one with the least Deadline blocks no other one
		{row(light(2, 1, 4, 4), light(4, 2, 8, 8)), 0}, {row(light(3, 3, 4, 8), light(1, 1, 8, 8)), 0}, {row(light(4, 4, 4, 8), light(1, 1, 8, 8)), 4},
		// nothing is demanded yet, though more blocks than there is time
		{times(2, light(2, 2, 8, 8)), 0}, {times(2, light(4, 4, 8, 8)), 0}, {row(light(7, 7, 8, 8), light(1, 1, 8, 8)), 0}, {row(light(1, 1, 6, 8), light(5, 5, 8, 8)), 0}, {row(light(1, 1, 6, 8), light(6, 6, 8, 8)), 6},
		// too much at the Horizon alone
		{times(2, light(2, 1, 4, 4)), 0}, {row(light(2, 1, 4, 4), light(3, 1, 4, 4)), 4}, {row(light(3, 1, 4, 4), light(2, 1, 4, 4)), 4}, {times(2, light(1, 1, 1, 1)), 1}, {row(light(2048, 1, 4096, 4096), light(2048, 2048, 4096, 4096)), 0}, {row(light(2048, 1, 4096, 4096), light(2049, 1, 4096, 4096)), 4096},
		{row(light(2, 2, 4, 4), light(8, 2, 16, 16)), 0}, {row(light(2, 2, 4, 4), light(9, 2, 16, 16)), 16}, {row(light(9, 2, 16, 16), light(2, 2, 4, 4)), 16}, {row(light(1, 1, 2, 2), light(2048, 1, 4096, 4096)), 0}, {row(light(1, 1, 2, 2), light(2049, 1, 4096, 4096)), 4096},
		// one tick more of Total, or of Most, at a Deadline below the Period
		{row(light(1, 1, 2, 4), light(3, 1, 8, 8)), 0}, {row(light(1, 1, 2, 4), light(3, 2, 8, 8)), 2}, {row(light(3, 1, 8, 8), light(1, 1, 2, 4)), 0}, {row(light(3, 2, 8, 8), light(1, 1, 2, 4)), 2},
		{row(light(4, 1, 10, 16), light(4, 4, 7, 16), light(2, 2, 12, 16)), 0}, {row(light(5, 1, 10, 16), light(4, 4, 7, 16), light(2, 2, 12, 16)), 10}, {row(light(4, 1, 10, 16), light(4, 4, 7, 16), light(3, 2, 12, 16)), 0}, {row(light(4, 1, 10, 16), light(4, 4, 7, 16), light(3, 3, 12, 16)), 10}, {row(light(4, 1, 10, 16), light(4, 4, 7, 16), light(4, 4, 12, 16)), 7},
		{row(light(1, 1, 1, 2), light(2, 1, 3, 4)), 1}, {row(light(1, 1, 2, 2), light(3, 1, 5, 8)), 0}, {row(light(1, 1, 2, 2), light(4, 1, 5, 8)), 5},
		// too much in a later period alone, behind all Deadlines
		{row(light(2, 1, 3, 4), light(3, 1, 6, 8)), 0}, {row(light(2, 1, 3, 4), light(4, 1, 6, 8)), 7}, {row(light(4, 1, 6, 8), light(2, 1, 3, 4)), 7}, {row(light(2, 1, 4, 4), light(4, 2, 6, 8)), 0}, {row(light(2, 1, 4, 4), light(5, 2, 7, 8)), 8},
		{row(light(9, 4, 16, 16), light(14, 2, 28, 32)), 0}, {row(light(10, 4, 16, 16), light(14, 2, 28, 32)), 32}, {row(light(6, 6, 8, 8), light(4, 1, 12, 16)), 0}, {row(light(7, 5, 8, 8), light(4, 1, 12, 16)), 16},
		{row(light(6, 2, 7, 8), light(7, 1, 27, 32)), 0}, {row(light(6, 2, 7, 8), light(8, 1, 27, 32)), 31}, {row(light(8, 1, 27, 32), light(6, 2, 7, 8)), 31},
		// as many as there may be
		{times(8, light(1, 1, 8, 8)), 0}, {append(times(7, light(1, 1, 8, 8)), light(2, 1, 8, 8)), 8}, {times(8, light(512, 512, 4096, 4096)), 0}, {append(times(7, light(512, 512, 4096, 4096)), light(513, 1, 4096, 4096)), 4096},
		{times(8, light(1, 1, 8, 4096)), 0}, {append(times(7, light(1, 1, 8, 4096)), light(1, 1, 7, 4096)), 0}, {times(8, light(1, 1, 7, 8)), 7}, {append(times(7, light(1, 1, 7, 8)), light(1, 1, 8, 8)), 7}, {times(8, light(4096, 4096, 4096, 4096)), 4096},
		// Long doesn't count
		{row(light(2, 2, 4, 4), api.Shape{Total: 4, Long: 2, Most: 2, Deadline: 8, Period: 8}), 0}, {row(light(2, 2, 4, 4), api.Shape{Total: 4, Long: 3, Most: 2, Deadline: 8, Period: 8}), 0}, {row(light(2, 2, 4, 4), api.Shape{Total: 5, Long: 2, Most: 2, Deadline: 8, Period: 8}), 8},
	} {
		if is, over := Fits(x.l), firstOver(x.l, Horizon(x.l)); is != (x.over == 0) || over != x.over {
			t.Error(i, x.l, is, over)
		}
		holdWords(t, x.l)
	}
}

// smalls hands out all light shapes of periods up to a greatest one.
func smalls(greatest int) []api.Shape {
	var l []api.Shape
	for period := 1; period <= greatest; period *= 2 {
		for deadline := 1; deadline <= period; deadline++ {
			for total := 1; total <= deadline; total++ {
				for most := 1; most <= total; most++ {
					l = append(l, light(total, most, deadline, period))
				}
			}
		}
	}
	return l
}

// P15.1, P15.2: all small shapes alone, by two and by three, against the chapter's words.
func TestAllSmall(t *testing.T) {
	kinds := map[bool]int{}
	for _, a := range smalls(8) {
		holdWords(t, row(a))
		for _, b := range smalls(8) {
			l := row(a, b)
			want := fitsByWords(l)
			kinds[want]++
			if Fits(l) != want {
				t.Fatal(l, want)
			}
		}
	}
	small := smalls(4)
	for _, a := range small {
		for _, b := range small {
			holdWords(t, row(a, b))
			for _, c := range small {
				l := row(a, b, c)
				want := fitsByWords(l)
				kinds[want]++
				if Fits(l) != want {
					t.Fatal(l, want)
				}
			}
		}
	}
	if kinds[true] < 1000 || kinds[false] < 1000 {
		t.Error("too few of a kind", kinds)
	}
}

// P15.1, P15.2: up to eight shapes by chance, of all sizes, against the chapter's words.
func TestByChance(t *testing.T) {
	c := chance(15)
	kinds := map[bool]int{}
	for range 600 {
		l := c.shapes()
		if !mayShare(l) {
			t.Fatal(l)
		}
		kinds[fitsByWords(l)]++
		holdWords(t, l)
	}
	if kinds[true] < 100 || kinds[false] < 100 {
		t.Error("too few of a kind", kinds)
	}
}

// P15.2: what fits is made greater tick by tick, in a Total and in a Most, up to where it fits just so: a tick more doesn't.
func TestJustSo(t *testing.T) {
	c := chance(2)
	totals, mosts := 0, 0
	for totals < 60 || mosts < 60 {
		l := c.shapes()
		if len(l) < 2 || horizonByWords(l) > 256 || !fitsByWords(l) {
			continue
		}
		s := &l[c.next(len(l))]
		for s.Total < s.Deadline && Fits(l) {
			s.Total++
		}
		if !Fits(l) {
			totals++
			holdWords(t, l)
			s.Total--
		}
		holdWords(t, l)
		s = &l[c.next(len(l))]
		s.Long = s.Total
		for s.Most < s.Long && Fits(l) {
			s.Most++
		}
		if !Fits(l) {
			mosts++
			holdWords(t, l)
			s.Most--
		}
		holdWords(t, l)
	}
}
