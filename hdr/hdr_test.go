package hdr_test

import (
	"math"
	"math/rand"
	"slices"
	"testing"

	"theodolite/api"
	"theodolite/hdr"
)

// example is the shape of the chapter's examples: one bucket of 2048 cells.
var example = api.Hdr{Lowest: 1, Highest: 2000, Digits: 3}

// shapes are some of those that may be, with units and counts of buckets from the least to the greatest ones.
var shapes = []api.Hdr{
	example,
	{Lowest: 1, Highest: 2, Digits: 1},
	{Lowest: 1, Highest: 32, Digits: 1},
	{Lowest: 1, Highest: 2047, Digits: 3},
	{Lowest: 1, Highest: 2048, Digits: 3},
	{Lowest: 1, Highest: 3600000000, Digits: 3},
	{Lowest: 1, Highest: last, Digits: 2},
	{Lowest: 1, Highest: 100000, Digits: 5},
	{Lowest: 1000, Highest: 2000, Digits: 1},
	{Lowest: 1000, Highest: 1 << 40, Digits: 4},
	{Lowest: 1<<58 - 1, Highest: 1<<59 - 2, Digits: 1},
	{Lowest: 1 << 57, Highest: 1 << 62, Digits: 1},
	{Lowest: 1 << 51, Highest: last, Digits: 3},
}

// P18.1 to P18.6, P18.9, P18.10: the chapter's examples.
func TestExamples(t *testing.T) {
	x, _ := made(t, example, false)
	if e, f := x.Record(7, 2), x.Record(1500, 1); e != api.OK || f != api.OK {
		t.Errorf("Record: %d, %d", e, f)
	}
	if v, e := x.At(1, 2); v != 7 || e != api.OK {
		t.Errorf("At(1, 2): %d, %d", v, e)
	}
	if v, e := x.At(1, 1); v != 1500 || e != api.OK {
		t.Errorf("At(1, 1): %d, %d", v, e)
	}
	if e := x.Record(2048, 1); e != api.ErrRange {
		t.Errorf("Record(2048, 1): %d", e)
	}
	x, _ = made(t, example, true)
	if e := x.Record(5000, 1); e != api.OK || x.Buckets() != 3 || x.Reach() != 8191 {
		t.Errorf("Record(5000, 1): %d, Buckets: %d, Reach: %d", e, x.Buckets(), x.Reach())
	}
	if v, e := x.At(1, 1); v != 5003 || e != api.OK {
		t.Errorf("At(1, 1): %d, %d", v, e)
	}
	x, _ = made(t, example, false)
	e := x.Correct(1000, 1, 300)
	if l := x.Pairs(); e != api.OK || !slices.Equal(l, []api.Pair{{Key: 400, N: 1}, {Key: 700, N: 1}, {Key: 1000, N: 1}}) {
		t.Errorf("Correct(1000, 1, 300): %d, %d", e, l)
	}
	if l, e := x.Linear(500); !slices.Equal(l, []hdr.Step{{To: 499, Count: 1, Upto: 1}, {To: 999, Count: 1, Upto: 2}, {To: 1499, Count: 1, Upto: 3}}) || e != api.OK {
		t.Errorf("Linear(500): %d, %d", l, e)
	}
	if l, e := x.Doubling(400, 2); !slices.Equal(l, []hdr.Step{{To: 399, Count: 0, Upto: 0}, {To: 799, Count: 2, Upto: 2}, {To: 1599, Count: 1, Upto: 3}}) || e != api.OK {
		t.Errorf("Doubling(400, 2): %d, %d", l, e)
	}
	if l, e := x.Halves(1); !slices.Equal(l, []hdr.Step{{To: 400, Count: 1, Upto: 1}, {To: 700, Count: 1, Upto: 2}, {To: 1000, Count: 1, Upto: 3}}) || e != api.OK {
		t.Errorf("Halves(1): %d, %d", l, e)
	}
	if v, e := x.Mean(); v != 700 || e != api.OK {
		t.Errorf("Mean: %d, %d", v, e)
	}
}

// P18.1: a shape that may not be has no histogram, whether it would grow or not.
func TestNewRefuses(t *testing.T) {
	for _, h := range []api.Hdr{
		{},
		{Lowest: 1, Highest: 2000, Digits: 0},
		{Lowest: 1, Highest: 2000, Digits: 6},
		{Lowest: 1, Highest: 2000, Digits: -1},
		{Lowest: 0, Highest: 2000, Digits: 3},
		{Lowest: -1, Highest: 2000, Digits: 3},
		{Lowest: 1001, Highest: 2001, Digits: 3},
		{Lowest: 1, Highest: 1, Digits: 3},
		{Lowest: 1, Highest: -2, Digits: 3},
		{Lowest: 1 << 58, Highest: 1 << 60, Digits: 1},
		{Lowest: 1 << 45, Highest: 1 << 60, Digits: 5},
		{Lowest: math.MinInt64, Highest: math.MinInt64, Digits: math.MinInt},
		{Lowest: last, Highest: last, Digits: math.MaxInt},
	} {
		for _, grows := range []bool{false, true} {
			if x, e := hdr.New(h, grows); x != nil || e != api.ErrArg {
				t.Errorf("New(%d, %t): %v, %d", h, grows, x, e)
			}
			if x, e := hdr.Load(h, grows, 1, nil); x != nil || e != api.ErrArg {
				t.Errorf("Load(%d, %t): %v, %d", h, grows, x, e)
			}
		}
	}
}

// P18.1, P18.5, P18.6, P18.9, P18.10: an empty histogram, of any shape.
func TestEmpty(t *testing.T) {
	for _, h := range shapes {
		for _, grows := range []bool{false, true} {
			x, w := made(t, h, grows)
			hold(t, x, w)
			if v := x.Reach(); v != h.Highest {
				t.Errorf("%d: Reach: %d", h, v)
			}
			for _, v := range []int64{math.MinInt64, -1, 0, 1, h.Highest, last} {
				holdValue(t, x, w, v, last)
				if n, den, e := x.Share(v); n != 0 || den != 0 || e != api.ErrEmpty {
					t.Errorf("%d: Share(%d): %d, %d, %d", h, v, n, den, e)
				}
			}
			for _, c := range []struct {
				num, den uint64
				e        api.Errno
			}{{0, 1, api.ErrEmpty}, {1, 1, api.ErrEmpty}, {1, 2, api.ErrEmpty}, {2, 1, api.ErrQuant}, {0, 0, api.ErrQuant}} {
				if v, e := x.At(c.num, c.den); v != 0 || e != c.e {
					t.Errorf("%d: At(%d, %d): %d, %d", h, c.num, c.den, v, e)
				}
			}
			for name, told := range map[string]func() (int64, api.Errno){"Least": x.Least, "Most": x.Most, "Mean": x.Mean} {
				if v, e := told(); v != 0 || e != api.ErrEmpty {
					t.Errorf("%d: %s: %d, %d", h, name, v, e)
				}
			}
			holdLinear(t, x, w, 1)
			holdDoubling(t, x, w, 1, 2)
			holdHalves(t, x, w, 1)
		}
	}
}

// P18.2: what isn't recorded, and why, where several apply; nothing is done then.
func TestRecordRefuses(t *testing.T) {
	for _, c := range []struct {
		grows bool
		v     int64
		n     uint64
		e     api.Errno
	}{
		{false, 5, 0, api.ErrWeight},
		{false, -1, 0, api.ErrWeight},
		{false, 2048, 0, api.ErrWeight},
		{false, -1, 1, api.ErrRange},
		{false, math.MinInt64, 1, api.ErrRange},
		{false, 2048, 1, api.ErrRange},
		{false, last, 1, api.ErrRange},
		{false, -1, most, api.ErrRange},
		{false, 2048, math.MaxUint64, api.ErrRange},
		{false, 5, most - 2, api.ErrCap},
		{false, 6, most, api.ErrCap},
		{false, 5, 1 << 63, api.ErrCap},
		{false, 5, math.MaxUint64, api.ErrCap},
		{false, 5, math.MaxUint64 - 2, api.ErrCap},
		{true, 4096, 0, api.ErrWeight},
		{true, -1, 0, api.ErrWeight},
		{true, -1, 1, api.ErrRange},
		{true, math.MinInt64, math.MaxUint64, api.ErrRange},
		{true, 4096, most - 2, api.ErrCap},
		{true, last, math.MaxUint64, api.ErrCap},
	} {
		x, w := filled(t, example, c.grows, came{5, 2}, came{1000, 1})
		if e := x.Record(c.v, c.n); e != c.e {
			t.Errorf("grows: %t: Record(%d, %d): %d, not %d", c.grows, c.v, c.n, e, c.e)
		}
		hold(t, x, w)
		if e := x.Correct(c.v, c.n, 0); e != c.e {
			t.Errorf("grows: %t: Correct(%d, %d, 0): %d, not %d", c.grows, c.v, c.n, e, c.e)
		}
		hold(t, x, w)
	}
}

// P18.1, P18.2: values about the end of each bucket, of histograms that grow and that don't; Highest itself is no end.
func TestReach(t *testing.T) {
	for _, h := range shapes {
		for _, grows := range []bool{false, true} {
			_, w := made(t, h, grows)
			top := w.top(w.buckets)
			values := []int64{0, h.Highest - 1, h.Highest, top - 1, top, last - 1, last}
			if h.Highest < last {
				values = append(values, h.Highest+1)
			}
			for n := w.buckets; n <= w.needed(last); n++ {
				values = append(values, w.top(n), w.top(n)&^1, w.top(n)/2+1)
				if w.top(n) < last {
					values = append(values, w.top(n)+1)
				}
			}
			for _, v := range values {
				x, w := made(t, h, grows)
				record(t, x, w, v, 3)
				hold(t, x, w)
				record(t, x, w, 0, 1)
				record(t, x, w, top, 1)
				hold(t, x, w)
				holdValue(t, x, w, v, last)
				holdPart(t, x, w, 1, 2)
			}
		}
	}
	x, _ := made(t, example, false)
	if e, f := x.Record(2001, 1), x.Record(2047, 1); e != api.OK || f != api.OK || x.Reach() != 2000 {
		t.Errorf("beyond Highest: %d, %d, Reach: %d", e, f, x.Reach())
	}
}

// P18.2: the greatest total that may be, come to at once or by steps.
func TestCap(t *testing.T) {
	x, w := filled(t, example, true, came{5000, most})
	hold(t, x, w)
	record(t, x, w, 5000, 1)
	record(t, x, w, 1<<40, 1)
	hold(t, x, w)
	holdPart(t, x, w, 1, 1)
	holdPart(t, x, w, math.MaxUint64-1, math.MaxUint64)
	x, w = filled(t, example, false, came{1, most - 2}, came{2, 1}, came{3, 1}, came{4, 1})
	hold(t, x, w)
	holdPart(t, x, w, most-1, most)
}

// P18.3: a value that came late, and those that it hid, at the edges of how many these are.
func TestCorrect(t *testing.T) {
	for _, c := range []struct {
		v     int64
		every int64
		want  []int64
	}{
		{1000, 300, []int64{1000, 700, 400}},
		{900, 300, []int64{900, 600, 300}},
		{899, 300, []int64{899, 599}},
		{601, 300, []int64{601, 301}},
		{600, 300, []int64{600, 300}},
		{599, 300, []int64{599}},
		{300, 300, []int64{300}},
		{299, 300, []int64{299}},
		{1, 300, []int64{1}},
		{0, 300, []int64{0}},
		{0, 1, []int64{0}},
		{1, 1, []int64{1}},
		{4, 1, []int64{4, 3, 2, 1}},
		{7, 0, []int64{7}},
		{7, -1, []int64{7}},
		{2000, -1, []int64{2000}},
		{7, math.MinInt64, []int64{7}},
		{7, last, []int64{7}},
	} {
		x, w := made(t, example, false)
		correct(t, x, w, c.v, 2, c.every)
		hold(t, x, w)
		for _, v := range c.want {
			if n := x.Count(v); n != 2 {
				t.Errorf("Correct(%d, 2, %d): %d: %d", c.v, c.every, v, n)
			}
		}
		if n := x.Total(); n != 2*uint64(len(c.want)) {
			t.Errorf("Correct(%d, 2, %d): %d in all", c.v, c.every, n)
		}
	}
	x, w := made(t, example, true)
	correct(t, x, w, last, 1, last/3)
	correct(t, x, w, last, 1, last)
	hold(t, x, w)
	correct(t, x, w, 1<<40+5, 3, 1<<35)
	hold(t, x, w)
}

// P18.3: as many others as may be, and one more; this is told ahead of all else.
func TestCorrectRefuses(t *testing.T) {
	for _, c := range []struct {
		grows bool
		v     int64
		n     uint64
		every int64
		e     api.Errno
	}{
		{true, 4097, 1, 1, api.OK},
		{true, 4098, 1, 1, api.ErrArg},
		{true, 4098*7 - 1, 1, 7, api.OK},
		{true, 4098 * 7, 1, 7, api.ErrArg},
		{true, last, 1, 1, api.ErrArg},
		{true, last, 1, last / 4097, api.OK},
		{true, last, 1, last / 4098, api.ErrArg},
		{true, 4098, 0, 1, api.ErrArg},
		{true, 4098, math.MaxUint64, 1, api.ErrArg},
		{false, 4098, 1, 1, api.ErrArg},
		{false, 4098, 0, 1, api.ErrArg},
		{false, 4097, 0, 1, api.ErrWeight},
		{false, 4097, 1, 1, api.ErrRange},
		{false, 2048, 1, 1000, api.ErrRange},
		{false, 2047, 1, 1, api.OK},
		{false, -1, 1, 1, api.ErrRange},
		{false, -5000, 0, 1, api.ErrWeight},
		{true, -1, 1, 1, api.ErrRange},
		{true, math.MinInt64, 1, 1, api.ErrRange},
		{true, math.MinInt64, 1, last, api.ErrRange},
		{true, math.MinInt64, 1, math.MinInt64, api.ErrRange},
		{true, math.MinInt64, 1, -1, api.ErrRange},
		{false, -5000, 1, -1, api.ErrRange},
		{true, 1000, most, 300, api.ErrCap},
		{true, 1000, math.MaxUint64, 300, api.ErrCap},
		{true, 1000, most - 100, 300, api.ErrCap},
		{true, 5000, (most-100)/2 + 1, 2000, api.ErrCap},
		{true, 5000, (most - 100) / 2, 2000, api.OK},
		{true, 4097, (most-100)/4097 + 1, 1, api.ErrCap},
		{true, 4097, (most - 100) / 4097, 1, api.OK},
		{true, 4097, 1 << 61, 1, api.ErrCap},
		{true, 4096, 1 << 52, 1, api.ErrCap}, // 2^64 in all
	} {
		x, w := filled(t, example, c.grows, came{10, 100})
		if e, f := x.Correct(c.v, c.n, c.every), w.correct(c.v, c.n, c.every); e != c.e || f != c.e {
			t.Errorf("grows: %t: Correct(%d, %d, %d): %d, not %d, or %d", c.grows, c.v, c.n, c.every, e, c.e, f)
		}
		hold(t, x, w)
	}
}

// P18.4: what comes from another histogram, which stays as it was, or from the histogram itself.
func TestTake(t *testing.T) {
	for _, h := range shapes {
		x, w := filled(t, h, true, came{0, 2}, came{h.Highest, 3})
		g, of := filled(t, h, true, came{0, 1}, came{h.Lowest, 5}, came{last, 7})
		take(t, x, w, g, of)
		hold(t, x, w)
		hold(t, g, of)
		take(t, g, of, x, w)
		take(t, x, w, x, w)
		hold(t, x, w)
		hold(t, g, of)
		record(t, g, of, 0, 1)
		record(t, x, w, h.Lowest, 1)
		hold(t, x, w)
		hold(t, g, of)
	}
	grown, wide := filled(t, example, true, came{1 << 50, 4})
	small, few := filled(t, example, true, came{3, 1})
	none, nothing := made(t, example, true)
	take(t, grown, wide, small, few)
	hold(t, grown, wide)
	take(t, grown, wide, none, nothing)
	take(t, none, nothing, none, nothing)
	hold(t, none, nothing)
	take(t, none, nothing, grown, wide)
	hold(t, none, nothing)
	hold(t, grown, wide)
}

// P18.4: what isn't taken, and why, where several apply; nothing is done then.
func TestTakeRefuses(t *testing.T) {
	x, w := filled(t, example, true, came{7, most/2 + 1})
	if e := x.Take(nil); e != api.ErrArg {
		t.Errorf("Take of nil: %d", e)
	}
	for _, c := range []struct {
		h     api.Hdr
		grows bool
		n     uint64
		e     api.Errno
	}{
		{example, false, 1, api.ErrKind},
		{api.Hdr{Lowest: 1, Highest: 2001, Digits: 3}, true, 1, api.ErrKind},
		{api.Hdr{Lowest: 1, Highest: 2000, Digits: 2}, true, 1, api.ErrKind},
		{api.Hdr{Lowest: 2, Highest: 2000, Digits: 3}, true, 1, api.ErrKind},
		{api.Hdr{Lowest: 1, Highest: 2001, Digits: 3}, true, most, api.ErrKind},
		{example, false, most, api.ErrKind},
		{example, true, most / 2, api.ErrCap},
		{example, true, most, api.ErrCap},
	} {
		v := int64(9)
		if c.grows {
			v = 1 << 30
		}
		g, of := filled(t, c.h, c.grows, came{v, c.n})
		if e := x.Take(g); e != c.e {
			t.Errorf("Take of %d, %t: %d, not %d", c.h, c.grows, e, c.e)
		}
		hold(t, x, w)
		hold(t, g, of)
	}
	if e := x.Take(x); e != api.ErrCap {
		t.Errorf("Take of itself: %d", e)
	}
	if e := x.Take(&hdr.Hist{}); e != api.ErrKind {
		t.Errorf("Take of no histogram: %d", e)
	}
	g, of := filled(t, example, true, came{3000, most/2 - 1})
	take(t, x, w, g, of)
	hold(t, x, w)
	if x.Total() != most {
		t.Errorf("Total: %d", x.Total())
	}
	y, of := filled(t, example, false, came{3, most / 2})
	take(t, y, of, y, of)
	hold(t, y, of)
	other, _ := filled(t, example, true, came{3, 1})
	if e := y.Take(other); e != api.ErrKind {
		t.Errorf("Take of one that grows: %d", e)
	}
}

// P18.1 to P18.10: any histograms answer what the chapter's words say.
func TestAny(t *testing.T) {
	dice := rand.New(rand.NewSource(181))
	for range 1500 {
		h, grows := anyShape(dice), dice.Intn(2) == 0
		x, w := made(t, h, grows)
		g, of := made(t, h, grows)
		top, v := int64(last), int64(0)
		if !grows && dice.Intn(4) > 0 {
			top = w.top(w.buckets)
		}
		for range dice.Intn(25) {
			v = anyValue(dice, w, v, top)
			n := 1 + dice.Uint64()>>(2+dice.Intn(62))
			switch dice.Intn(8) {
			case 0:
				correct(t, x, w, v, n, v/(1+dice.Int63n(9))+dice.Int63n(3)-1)
			case 1:
				correct(t, x, w, v%5000, n>>12, 1+dice.Int63n(700))
			case 2:
				record(t, g, of, v, n)
			case 3:
				take(t, x, w, g, of)
			default:
				record(t, x, w, v, n)
			}
		}
		hold(t, x, w)
		hold(t, g, of)
		for range 10 {
			v, other := anyValue(dice, w, v, last), anyValue(dice, w, v, last)
			holdValue(t, x, w, v, other)
			holdValue(t, x, w, -v, other)
			num, den := anyPart(dice)
			holdPart(t, x, w, num, den)
			holdLinear(t, x, w, max(v>>dice.Intn(13), 1))
			holdDoubling(t, x, w, max(v, 1), 2+dice.Int63n(1<<31-1)>>dice.Intn(31))
		}
		holdHalves(t, x, w, 1+dice.Intn(4))
	}
}

// P18.8: neither in which order values come, nor by which histograms, makes a difference.
func TestOrder(t *testing.T) {
	dice := rand.New(rand.NewSource(182))
	for range 300 {
		h, v := anyShape(dice), int64(0)
		x, w := made(t, h, true)
		parts := make([]*hdr.Hist, 4)
		for k := range parts {
			parts[k], _ = made(t, h, true)
		}
		var row []came
		for range dice.Intn(30) {
			v = anyValue(dice, w, v, last)
			row = append(row, came{v, 1 + dice.Uint64()>>(10+dice.Intn(54))})
		}
		for _, c := range row {
			record(t, x, w, c.v, c.n)
		}
		dice.Shuffle(len(row), func(i, j int) { row[i], row[j] = row[j], row[i] })
		for _, c := range row {
			if e := parts[dice.Intn(len(parts))].Record(c.v, c.n); e != api.OK {
				t.Fatalf("%d: Record(%d, %d): %d", h, c.v, c.n, e)
			}
		}
		dice.Shuffle(len(parts), func(i, j int) { parts[i], parts[j] = parts[j], parts[i] })
		parts[2].Take(parts[3])
		parts[0].Take(parts[1])
		parts[0].Take(parts[2])
		hold(t, parts[0], w)
		hold(t, x, w)
	}
}
