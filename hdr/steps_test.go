package hdr_test

import (
	"math"
	"slices"
	"testing"

	"theodolite/api"
	"theodolite/hdr"
)

// P18.9: steps of one width, about how many there are at most, and up to the greatest value.
func TestLinear(t *testing.T) {
	for _, c := range []struct {
		l      []came
		widths []int64
	}{
		{[]came{{0, 1}}, []int64{1, 2, last}},
		{[]came{{1, 1}, {4096, 1}}, []int64{1, 2, 4096, 4097, 4098, 4099}},
		{[]came{{4095, 1}}, []int64{1, 2, 3, 4095, 4096}}, // the greatest cell begins with 4094
		{[]came{{4096 * 5, 1}, {4096 * 3, 2}}, []int64{4, 5, 6}},
		{[]came{{4096*5 - 16, 1}, {3, 2}}, []int64{4, 5, 6}},
		{[]came{{7, 3}, {500, 2}, {499, 1}}, []int64{1, 7, 8, 100, 499, 500, 501, 502}},
		{[]came{{2048, 1}}, []int64{2047, 2048, 2049, 2050, 2051}},
		{[]came{{last, 1}, {0, 1}}, []int64{1, 1<<51 - 2, 1<<51 - 1, 1 << 51, 1 << 60, 1<<60 + 1, 1<<62 - 1, 1 << 62, 1<<62 + 1, last - 1<<52, last - 1, last}},
		{[]came{{1 << 62, most}}, []int64{1 << 49, 1 << 50, 1<<50 + 1, 1 << 62, 1<<62 + 1, last}},
	} {
		x, w := filled(t, example, true, c.l...)
		for _, width := range append(c.widths, 0, -1, math.MinInt64) {
			holdLinear(t, x, w, width)
		}
	}
	for _, c := range []struct {
		v, width int64
		steps    int
		e        api.Errno
	}{
		{4095, 1, 4096, api.OK}, {4096, 1, 0, api.ErrArg},
		{4096*8 - 1, 8, 4096, api.OK}, {4096 * 8, 8, 0, api.ErrArg},
		{1 << 40, 1<<28 + 1, 4096, api.OK}, {1 << 40, 1 << 28, 0, api.ErrArg},
	} {
		x, w := filled(t, api.Hdr{Lowest: 1, Highest: 2, Digits: 5}, true, came{c.v, 1})
		if l, e := x.Linear(c.width); len(l) != c.steps || e != c.e {
			t.Errorf("%v: Linear(%d): %d steps, %d", w, c.width, len(l), e)
		}
	}
	x, _ := filled(t, example, true, came{last, 1})
	if l, e := x.Linear(1 << 62); !slices.Equal(l, []hdr.Step{{To: 1<<62 - 1}, {To: last, Count: 1, Upto: 1}}) || e != api.OK {
		t.Errorf("Linear(2^62): %d, %d", l, e)
	}
	if l, e := x.Linear(last - 1<<52); !slices.Equal(l, []hdr.Step{{To: last - 1<<52 - 1}, {To: last, Count: 1, Upto: 1}}) || e != api.OK {
		t.Errorf("Linear(2^63 - 2^52 - 1): %d, %d", l, e)
	}
}

// P18.9: the greatest cell is that of what was counted: a histogram that has grown, or reaches far, has steps all the same.
func TestLinearOfFew(t *testing.T) {
	for _, h := range shapes {
		x, w := filled(t, h, false, came{0, 2})
		holdLinear(t, x, w, 1)
		if l, e := x.Linear(1); !slices.Equal(l, []hdr.Step{{To: 0, Count: 2, Upto: 2}}) || e != api.OK {
			t.Errorf("%d: Linear(1): %d, %d", h, l, e)
		}
	}
}

// P18.9: a step ends within a cell: all of the cell is counted up to there.
func TestStepsWithin(t *testing.T) {
	h := api.Hdr{Lowest: 1000, Highest: 1 << 20, Digits: 1}
	x, w := filled(t, h, false, came{511, 1}, came{512, 2}, came{20000, 4})
	if l, e := x.Linear(10000); !slices.Equal(l, []hdr.Step{{To: 9999, Count: 3, Upto: 3}, {To: 19999, Count: 4, Upto: 7}}) || e != api.OK {
		t.Errorf("Linear(10000): %d, %d", l, e)
	}
	for _, width := range []int64{1, 4, 5, 100, 511, 512, 513, 1000, 19455, 19456, 19457, 20000, 1 << 20} {
		holdLinear(t, x, w, width)
		holdDoubling(t, x, w, width, 2)
		holdDoubling(t, x, w, width, 3)
	}
}

// P18.9: steps each of which has so many times as much, up to the greatest value.
func TestDoubling(t *testing.T) {
	for _, l := range [][]came{
		nil,
		{{0, 1}},
		{{0, 3}, {1, 2}, {2, 1}, {1023, 4}, {1024, 5}},
		{{last, 1}},
		{{0, most - 1}, {last, 1}},
		{{1 << 62, 2}, {1<<62 - 1, 5}},
	} {
		x, w := filled(t, example, true, l...)
		for _, first := range []int64{math.MinInt64, -1, 0, 1, 2, 3, 1000, 1024, 1 << 32, 1<<62 - 1, 1 << 62, 1<<62 + 1, last - 1, last} {
			for _, base := range []int64{math.MinInt64, -2, 0, 1, 2, 3, 10, 1<<31 - 1, 1 << 31, 1<<31 + 1, 1 << 32, last} {
				holdDoubling(t, x, w, first, base)
			}
		}
	}
	x, _ := filled(t, example, true, came{last, 1})
	if l, e := x.Doubling(1<<31, 1<<31); !slices.Equal(l, []hdr.Step{{To: 1<<31 - 1}, {To: 1<<62 - 1}, {To: last, Count: 1, Upto: 1}}) || e != api.OK {
		t.Errorf("Doubling(2^31, 2^31): %d, %d", l, e)
	}
	if l, e := x.Doubling(1, 1); l != nil || e != api.ErrArg {
		t.Errorf("Doubling(1, 1): %d, %d", l, e)
	}
	if l, e := x.Doubling(0, 2); l != nil || e != api.ErrArg {
		t.Errorf("Doubling(0, 2): %d, %d", l, e)
	}
	if l, e := x.Doubling(1, 1<<31+1); l != nil || e != api.ErrArg {
		t.Errorf("Doubling(1, 2^31 + 1): %d, %d", l, e)
	}
}

// P18.9: parts that come nearer to the whole, up to the greatest total that is halved.
func TestHalves(t *testing.T) {
	for _, l := range [][]came{
		nil,
		{{5, 1}},
		{{5, 1000}, {9, 1}},
		{{0, 1}, {2049, 2}, {5000, 3}, {last, 4}},
		{{1, 1<<50 - 1}, {2, 1}},
		{{1, 1}, {2, 1<<50 - 1}},
		{{1, 1<<50 - 1}, {2, 2}},
		{{1, most}},
	} {
		x, w := filled(t, example, true, l...)
		for _, ticks := range []int{math.MinInt, -1, 0, 1, 2, 3, 5, 10, 63, 64, 65, math.MaxInt} {
			holdHalves(t, x, w, ticks)
		}
	}
	x, _ := filled(t, example, true, came{5, 4}, came{9, 1})
	if l, e := x.Halves(2); !slices.Equal(l, []hdr.Step{{To: 5, Count: 4, Upto: 4}, {To: 5, Upto: 4}, {To: 5, Upto: 4}, {To: 5, Upto: 4}, {To: 5, Upto: 4}, {To: 9, Count: 1, Upto: 5}}) || e != api.OK {
		t.Errorf("Halves(2): %d, %d", l, e)
	}
	x, _ = filled(t, example, true, came{5, 1<<50 - 1}, came{9, 1})
	if l, e := x.Halves(64); len(l) != 50*64+2 || e != api.OK {
		t.Errorf("Halves(64): %d steps, %d", len(l), e)
	}
	x.Record(9, 1)
	if l, e := x.Halves(64); l != nil || e != api.ErrCap {
		t.Errorf("Halves(64): %d, %d", l, e)
	}
	if l, e := x.Halves(65); l != nil || e != api.ErrArg {
		t.Errorf("Halves(65): %d, %d", l, e)
	}
}
