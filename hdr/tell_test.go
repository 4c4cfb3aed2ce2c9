package hdr_test

import (
	"math"
	"math/rand"
	"slices"
	"testing"

	"theodolite/api"
	"theodolite/hdr"
)

// P18.5: what is counted from cell to cell, also from and to values in their midst, below 0 and beyond all.
func TestBetween(t *testing.T) {
	x, w := filled(t, example, true, came{0, 1}, came{1, 2}, came{2049, 4}, came{2050, 8}, came{5001, 16}, came{1 << 40, 32})
	for _, c := range []struct {
		v, w int64
		n    uint64
	}{
		{0, 0, 1}, {0, 1, 3}, {1, 0, 0}, {1, 1, 2}, {2, 2047, 0},
		{-1, 0, 1}, {-1, -1, 1}, {math.MinInt64, -1, 1}, {-1, math.MinInt64, 0}, {-5, -6, 0}, {0, -1, 0}, {math.MinInt64, math.MinInt64, 1}, {math.MinInt64, last, 63},
		{2048, 2048, 4}, {2049, 2048, 0}, {2048, 2049, 4}, {2049, 2050, 12}, {2051, 2051, 8}, {2, 2051, 12}, {2052, 5002, 16}, {5003, 5003, 16}, {5004, last, 32},
		{1 << 40, 1<<40 + 1<<30 - 1, 32}, {1<<40 + 1<<30 - 1, last, 32}, {1<<40 + 1<<30, last, 0}, {last, last, 0}, {last, 0, 0},
	} {
		if n := x.Between(c.v, c.w); n != c.n {
			t.Errorf("Between(%d, %d): %d, not %d", c.v, c.w, n, c.n)
		}
		holdValue(t, x, w, c.v, c.w)
	}
	for v, want := range map[int64]uint64{math.MinInt64: 0, -1: 0, 0: 1, 1: 2, 2: 0, 2047: 0, 2048: 4, 2051: 8, 2052: 0, 4999: 0, 5000: 16, 5003: 16, 5004: 0, 1 << 40: 32, 1<<40 - 1: 0, last: 0} {
		if n := x.Count(v); n != want {
			t.Errorf("Count(%d): %d, not %d", v, n, want)
		}
	}
}

// P18.5: the ends are those of cells that were counted, up to the last one of all.
func TestEnds(t *testing.T) {
	for _, c := range []struct {
		l           []came
		least, most int64
	}{
		{[]came{{0, 1}}, 0, 0},
		{[]came{{7, 1}, {5, 1}, {6, 1}}, 5, 7},
		{[]came{{2049, 1}}, 2048, 2049},
		{[]came{{5001, 1}, {2051, 1}}, 2050, 5003},
		{[]came{{last, 1}}, last - 1<<52 + 1, last},
		{[]came{{last, 1}, {0, 1}}, 0, last},
	} {
		x, w := filled(t, example, true, c.l...)
		least, e := x.Least()
		most, f := x.Most()
		if least != c.least || most != c.most || e != api.OK || f != api.OK {
			t.Errorf("%d: Least: %d, %d, Most: %d, %d", c.l, least, e, most, f)
		}
		hold(t, x, w)
	}
}

// P18.6: parts about each value's ranks, and such as may not be; shares of values about each one.
func TestRanks(t *testing.T) {
	x, w := filled(t, example, true, came{0, 1}, came{7, 2}, came{2049, 3}, came{5000, 4}, came{1 << 30, 2})
	for den := range uint64(26) {
		for num := range den + 2 {
			holdPart(t, x, w, num, den)
		}
	}
	for _, c := range []struct {
		num, den uint64
		v        int64
		e        api.Errno
	}{
		{0, 1, 0, api.OK}, {1, 12, 0, api.OK}, {2, 12, 7, api.OK}, {3, 12, 7, api.OK}, {1, 2, 2049, api.OK}, {10, 12, 5003, api.OK},
		{10*1000 + 1, 12 * 1000, 1<<30 + 1<<20 - 1, api.OK}, {math.MaxUint64, math.MaxUint64, 1<<30 + 1<<20 - 1, api.OK}, {1, math.MaxUint64, 0, api.OK},
		{13, 12, 0, api.ErrQuant}, {0, 0, 0, api.ErrQuant}, {math.MaxUint64, 0, 0, api.ErrQuant}, {math.MaxUint64, math.MaxUint64 - 1, 0, api.ErrQuant},
	} {
		if v, e := x.At(c.num, c.den); v != c.v || e != c.e {
			t.Errorf("At(%d, %d): %d, %d, not %d, %d", c.num, c.den, v, e, c.v, c.e)
		}
	}
	for _, c := range []struct {
		v        int64
		num, den uint64
	}{{math.MinInt64, 0, 1}, {-1, 0, 1}, {0, 1, 12}, {6, 1, 12}, {7, 1, 4}, {2047, 1, 4}, {2048, 1, 2}, {4999, 1, 2}, {5000, 5, 6}, {1<<30 - 1, 5, 6}, {1 << 30, 1, 1}, {last, 1, 1}} {
		if num, den, e := x.Share(c.v); num != c.num || den != c.den || e != api.OK {
			t.Errorf("Share(%d): %d, %d, %d", c.v, num, den, e)
		}
		holdValue(t, x, w, c.v, last)
	}
}

// P18.10: the floor of the mean of cells' middles, with numbers that have no room in 64 bits on the way.
func TestMean(t *testing.T) {
	for _, c := range []struct {
		h    api.Hdr
		l    []came
		want int64
	}{
		{example, []came{{0, 1}}, 0},
		{example, []came{{0, most}}, 0},
		{example, []came{{1, 1}, {2, 1}}, 1},
		{example, []came{{1, 1}, {2, 2}}, 1},
		{example, []came{{1, 1}, {2, most - 1}}, 1},
		{example, []came{{3, 1}, {5, 1}}, 4},
		{example, []came{{2048, 1}}, 2049},
		{example, []came{{2049, 5}}, 2049},
		{example, []came{{5003, 1}}, 5002},
		{example, []came{{last, 1}}, last - 1<<51 + 1},
		{example, []came{{last, most}}, last - 1<<51 + 1},
		{example, []came{{last, most - 1}, {0, 1}}, last - 1<<51 - 1},
		{api.Hdr{Lowest: 1000, Highest: 2000, Digits: 1}, []came{{0, 1}}, 256},
		{api.Hdr{Lowest: 1000, Highest: 2000, Digits: 1}, []came{{1023, 1}, {0, 2}}, 426},
		{api.Hdr{Lowest: 3, Highest: 2000, Digits: 1}, []came{{3, 1}, {0, 1}}, 2},
	} {
		x, w := filled(t, c.h, true, c.l...)
		if v, e := x.Mean(); v != c.want || e != api.OK {
			t.Errorf("%d, %d: Mean: %d, %d, not %d", c.h, c.l, v, e, c.want)
		}
		hold(t, x, w)
	}
}

// load holds Load of what a histogram has against it.
func load(t *testing.T, x *hdr.Hist, w *model) {
	t.Helper()
	y, e := hdr.Load(x.Shape(), x.Grows(), x.Buckets(), x.Pairs())
	if y == nil || e != api.OK {
		t.Fatalf("Load(%d, %t, %d, %d): %v, %d", w.shape, w.grows, x.Buckets(), x.Pairs(), y, e)
	}
	hold(t, y, w)
	top := w.top(w.buckets)
	record(t, y, w, top, 1)
	record(t, y, w, last, 1)
	hold(t, y, w)
	for _, buckets := range []int{math.MinInt, -1, 0, x.Buckets() - 1, x.Buckets() + 1, 64, 65, math.MaxInt} {
		if y, e := hdr.Load(x.Shape(), x.Grows(), buckets, x.Pairs()); y != nil || e != api.ErrArg {
			t.Fatalf("Load(%d, %t, %d, %d): %v, %d", w.shape, w.grows, buckets, x.Pairs(), y, e)
		}
	}
}

// P18.7: what a histogram has is loaded, of any shape, and goes on as that; other counts of buckets are not.
func TestLoad(t *testing.T) {
	for _, h := range shapes {
		for _, grows := range []bool{false, true} {
			x, w := made(t, h, grows)
			load(t, x, w)
			x, w = filled(t, h, grows, came{0, 1}, came{h.Highest, most - 2})
			load(t, x, w)
		}
		x, w := filled(t, h, true, came{h.Lowest, 5}, came{last, 1})
		load(t, x, w)
	}
	dice := rand.New(rand.NewSource(183))
	for range 300 {
		x, w := made(t, anyShape(dice), true)
		v, top := int64(0), int64(last)>>dice.Intn(64)
		for range dice.Intn(20) {
			v = anyValue(dice, w, v, top)
			record(t, x, w, v, 1+dice.Uint64()>>(3+dice.Intn(61)))
		}
		load(t, x, w)
	}
}

// P18.7: what is no histogram's, each by one thing alone.
func TestLoadRefuses(t *testing.T) {
	pair := func(k int, n uint64) api.Pair { return api.Pair{Key: k, N: n} }
	for _, c := range []struct {
		grows   bool
		buckets int
		l       []api.Pair
		ok      bool
	}{
		{false, 1, nil, true},
		{false, 1, []api.Pair{}, true},
		{true, 1, nil, true},
		{true, 2, nil, false},
		{false, 2, nil, false},
		{false, 1, []api.Pair{pair(0, 1), pair(2047, 1)}, true},
		{true, 1, []api.Pair{pair(0, 1), pair(2047, 1)}, true},
		{false, 1, []api.Pair{pair(0, 1), pair(2048, 1)}, false},
		{false, 2, []api.Pair{pair(0, 1), pair(2048, 1)}, false},
		{true, 1, []api.Pair{pair(0, 1), pair(2048, 1)}, false},
		{true, 2, []api.Pair{pair(0, 1), pair(2048, 1)}, true},
		{true, 3, []api.Pair{pair(0, 1), pair(2048, 1)}, false},
		{true, 2, []api.Pair{pair(3071, 1)}, true},
		{true, 2, []api.Pair{pair(3072, 1)}, false},
		{true, 3, []api.Pair{pair(3072, 1)}, true},
		{true, 2, []api.Pair{pair(2047, 1)}, false},
		{true, 53, []api.Pair{pair(54*1024-1, 1)}, true}, // the last cell of all
		{true, 53, []api.Pair{pair(54*1024, 1)}, false},
		{true, 54, []api.Pair{pair(54*1024, 1)}, false},
		{true, 64, []api.Pair{pair(65*1024-1, 1)}, false},
		{true, 1, []api.Pair{pair(math.MaxInt, 1)}, false},
		{true, 1, []api.Pair{pair(-1, 1)}, false},
		{true, 1, []api.Pair{pair(-1, 1), pair(5, 1)}, false},
		{true, 1, []api.Pair{pair(math.MinInt, 1)}, false},
		{true, 1, []api.Pair{pair(5, 0)}, false},
		{true, 1, []api.Pair{pair(5, 1), pair(6, 0)}, false},
		{true, 1, []api.Pair{pair(5, 1), pair(5, 1)}, false},
		{true, 1, []api.Pair{pair(6, 1), pair(5, 1)}, false},
		{true, 2, []api.Pair{pair(3000, 1), pair(5, 1)}, false},
		{true, 1, []api.Pair{pair(5, most)}, true},
		{true, 1, []api.Pair{pair(5, most+1)}, false},
		{true, 1, []api.Pair{pair(5, most-1), pair(6, 1)}, true},
		{true, 1, []api.Pair{pair(5, most), pair(6, 1)}, false},
		{false, 1, []api.Pair{pair(5, math.MaxUint64), pair(6, 2)}, false},
	} {
		x, e := hdr.Load(example, c.grows, c.buckets, c.l)
		switch {
		case !c.ok && (x != nil || e != api.ErrArg):
			t.Errorf("Load(%t, %d, %d): %v, %d", c.grows, c.buckets, c.l, x, e)
		case c.ok && (x == nil || e != api.OK):
			t.Errorf("Load(%t, %d, %d): %v, %d", c.grows, c.buckets, c.l, x, e)
		case c.ok && (!slices.Equal(x.Pairs(), c.l) || x.Buckets() != c.buckets || x.Grows() != c.grows):
			t.Errorf("Load(%t, %d, %d): Pairs: %d, Buckets: %d", c.grows, c.buckets, c.l, x.Pairs(), x.Buckets())
		}
	}
}

// Rule 5: what is handed in is neither changed nor kept; an answer is new memory.
func TestAnswers(t *testing.T) {
	l := []api.Pair{{Key: 5, N: 1}, {Key: 7, N: 2}}
	x, e := hdr.Load(example, true, 1, l)
	if e != api.OK {
		t.Fatal(e)
	}
	l[0] = api.Pair{Key: 6, N: 9}
	pairs := x.Pairs()
	if !slices.Equal(pairs, []api.Pair{{Key: 5, N: 1}, {Key: 7, N: 2}}) {
		t.Errorf("Pairs: %d", pairs)
	}
	pairs[1].N = 9
	steps, _ := x.Linear(4)
	steps[0].Upto = 9
	g, e := hdr.Load(example, true, 1, x.Pairs())
	if f := x.Take(g); e != api.OK || f != api.OK {
		t.Fatal(e, f)
	}
	g.Record(9, 1)
	if pairs := x.Pairs(); !slices.Equal(pairs, []api.Pair{{Key: 5, N: 2}, {Key: 7, N: 4}}) || x.Total() != 6 {
		t.Errorf("Pairs: %d", pairs)
	}
	if steps, _ := x.Linear(8); !slices.Equal(steps, []hdr.Step{{To: 7, Count: 6, Upto: 6}}) {
		t.Errorf("Linear(8): %d", steps)
	}
	if pairs := g.Pairs(); !slices.Equal(pairs, []api.Pair{{Key: 5, N: 1}, {Key: 7, N: 2}, {Key: 9, N: 1}}) {
		t.Errorf("Pairs: %d", pairs)
	}
}
