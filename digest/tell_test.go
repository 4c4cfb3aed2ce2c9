package digest_test

import (
	"math"
	"math/rand"
	"slices"
	"testing"

	"theodolite/api"
	"theodolite/digest"
)

// wide are ends beyond all means: points 0 at 0, 10 at 1, 20 at 5, 100 at 8.
var wide = model{10, []api.Mean{{V: 20, N: 3}}, []api.Mean{{V: 10, N: 1}}, 0, 100}

// alike are neighbours of one number: points 0 at 0, 0 at 1, 5 at 4, 5 at 8, 9 at 11, 9 at 12.
var alike = model{10, []api.Mean{{V: 0, N: 1}, {V: 5, N: 2}, {V: 9, N: 1}}, []api.Mean{{V: 5, N: 2}}, 0, 9}

// P22.5: what stands at each spot.
func TestAt(t *testing.T) {
	for _, c := range []struct {
		w    model
		want []int64
	}{
		{wide, []int64{0, 10, 12, 15, 17, 20, 46, 73, 100}},
		{alike, []int64{0, 0, 1, 3, 5, 5, 5, 5, 5, 6, 7, 9, 9}},
		{model{10, []api.Mean{{V: -7, N: 2}}, nil, -10, -5}, []int64{-10, -9, -7, -6, -5}},
		{model{10, nil, []api.Mean{{V: 5, N: 1}}, 5, 5}, []int64{5, 5, 5}},
		{model{10, nil, []api.Mean{{V: highest, N: 1}, {V: lowest, N: 1}}, lowest, highest}, []int64{lowest, lowest, -1, highest, highest}},
		{model{1000, ones(0, 10, 3), ones(5, 10, 3), 0, 25}, []int64{0, 0, 2, 5, 7, 10, 12, 15, 17, 20, 22, 25, 25}},
	} {
		x := loaded(t, &c.w)
		for i, want := range c.want {
			if v, e := x.At(uint64(i), uint64(len(c.want)-1)); v != want || e != api.OK {
				t.Errorf("%v: spot %d: %d, %d, not %d", &c.w, i, v, e, want)
			}
		}
		hold(t, x, &c.w)
	}
}

// P22.5: parts between spots are those of the spot ahead; parts with the greatest numbers.
func TestAtParts(t *testing.T) {
	x := loaded(t, &wide)
	for _, c := range []struct {
		num, den uint64
		want     int64
	}{
		{1, 9, 0}, {124, 1000, 0}, {125, 1000, 10}, {126, 1000, 10}, {249, 1000, 10}, {250, 1000, 12}, {999, 1000, 73},
		{math.MaxUint64, math.MaxUint64, 100}, {math.MaxUint64 - 1, math.MaxUint64, 73}, {1, math.MaxUint64, 0}, {1 << 61, 1 << 63, 12}, {5 << 60, 1 << 63, 20}, {5<<60 - 1, 1 << 63, 17},
	} {
		if v, e := x.At(c.num, c.den); v != c.want || e != api.OK {
			t.Errorf("At(%d, %d): %d, %d, not %d", c.num, c.den, v, e, c.want)
		}
	}
}

// P22.5: which error At tells, of an empty digest, too.
func TestAtRefuses(t *testing.T) {
	for _, c := range []struct {
		num, den uint64
		none, ok api.Errno
	}{
		{0, 0, api.ErrQuant, api.ErrQuant},
		{1, 0, api.ErrQuant, api.ErrQuant},
		{2, 1, api.ErrQuant, api.ErrQuant},
		{math.MaxUint64, math.MaxUint64 - 1, api.ErrQuant, api.ErrQuant},
		{0, 1, api.ErrEmpty, api.OK},
		{1, 2, api.ErrEmpty, api.OK},
		{math.MaxUint64, math.MaxUint64, api.ErrEmpty, api.OK},
	} {
		if v, e := empty(t, 10).At(c.num, c.den); v != 0 || e != c.none {
			t.Errorf("nothing: At(%d, %d): %d, %d", c.num, c.den, v, e)
		}
		x, _ := made(t, 10, few...)
		if v, e := x.At(c.num, c.den); e != c.ok || e != api.OK && v != 0 {
			t.Errorf("few: At(%d, %d): %d, %d", c.num, c.den, v, e)
		}
	}
}

// P22.6: how much there is up to a value, about each point.
func TestUpto(t *testing.T) {
	ends := model{10, nil, []api.Mean{{V: highest, N: 1}, {V: lowest, N: 1}}, lowest, highest}
	same := model{10, []api.Mean{{V: 5, N: 1}}, []api.Mean{{V: 5, N: 1}}, 5, 5}
	for _, c := range []struct {
		w    model
		v    int64
		want uint64
	}{
		{wide, lowest, 0}, {wide, -1, 0}, {wide, 0, 0}, {wide, 9, 0}, {wide, 10, 0}, {wide, 12, 0}, {wide, 13, 1}, {wide, 15, 1},
		{wide, 17, 1}, {wide, 18, 2}, {wide, 20, 2}, {wide, 46, 2}, {wide, 47, 3}, {wide, 99, 3}, {wide, 100, 4}, {wide, 101, 4}, {wide, highest, 4},
		{alike, -1, 0}, {alike, 0, 0}, {alike, 1, 0}, {alike, 2, 1}, {alike, 4, 1}, {alike, 5, 4}, {alike, 7, 4}, {alike, 8, 5}, {alike, 9, 6},
		{ends, lowest, 0}, {ends, -1, 0}, {ends, 0, 1}, {ends, highest - 1, 1}, {ends, highest, 2},
		{same, lowest, 0}, {same, 4, 0}, {same, 5, 2}, {same, 6, 2}, {same, highest, 2},
		{model{d: 10}, lowest, 0}, {model{d: 10}, -1, 0}, {model{d: 10}, 0, 0}, {model{d: 10}, 1, 0}, {model{d: 10}, highest, 0},
	} {
		x := loaded(t, &c.w)
		if n := x.Upto(c.v); n != c.want {
			t.Errorf("%v: Upto(%d): %d, not %d", &c.w, c.v, n, c.want)
		}
		hold(t, x, &c.w)
	}
}

// P22.4: the ends of all that came, whatever is pressed.
func TestEnds(t *testing.T) {
	for _, c := range []struct {
		all         []api.Mean
		least, most int64
		e           api.Errno
	}{
		{nil, 0, 0, api.ErrEmpty},
		{[]api.Mean{{V: 0, N: 1}}, 0, 0, api.OK},
		{[]api.Mean{{V: 7, N: 1}}, 7, 7, api.OK},
		{[]api.Mean{{V: -7, N: 3}}, -7, -7, api.OK},
		{few, -10, 40, api.OK},
		{few[:2], -10, 40, api.OK},
		{[]api.Mean{{V: highest, N: 1}, {V: highest - 1, N: 1}}, highest - 1, highest, api.OK},
		{[]api.Mean{{V: lowest + 1, N: 1}, {V: lowest, N: 1}}, lowest, lowest + 1, api.OK},
		{ones(100, -1, 300), -199, 100, api.OK},
	} {
		x, _ := made(t, 10, c.all...)
		for range 2 {
			if a, b, e := x.Ends(); a != c.least || b != c.most || e != c.e {
				t.Errorf("%d: Ends: %d, %d, %d", c.all, a, b, e)
			}
			x.Press()
		}
	}
}

// P22.9: the floor of the mean of all means, those that wait, too.
func TestMean(t *testing.T) {
	for _, c := range []struct {
		list, waits []api.Mean
		want        int64
		e           api.Errno
	}{
		{nil, nil, 0, api.ErrEmpty},
		{nil, []api.Mean{{V: -3, N: 1}, {V: 0, N: 1}}, -2, api.OK},
		{[]api.Mean{{V: -3, N: 1}}, []api.Mean{{V: 4, N: 2}}, 1, api.OK},
		{[]api.Mean{{V: 4, N: 2}}, []api.Mean{{V: -3, N: 1}}, 1, api.OK},
		{[]api.Mean{{V: -1, N: 1}, {V: 0, N: full - 1}}, nil, -1, api.OK},
		{[]api.Mean{{V: lowest, N: 1}, {V: highest, N: 1}}, nil, -1, api.OK},
		{[]api.Mean{{V: lowest, N: full / 2}}, []api.Mean{{V: highest, N: full / 2}}, -1, api.OK},
		{[]api.Mean{{V: highest, N: full}}, nil, highest, api.OK},
		{nil, []api.Mean{{V: lowest, N: full}}, lowest, api.OK},
		{[]api.Mean{{V: 5, N: 3}, {V: 5, N: 1}}, []api.Mean{{V: 6, N: 3}}, 5, api.OK},
	} {
		w := &model{d: 10, list: c.list, waits: c.waits}
		if len(w.all()) > 0 {
			w.least, w.most = lowest, highest
		}
		if v, e := loaded(t, w).Mean(); v != c.want || e != c.e {
			t.Errorf("%v: Mean: %d, %d, not %d, %d", w, v, e, c.want, c.e)
		}
	}
}

// P22.8: a greater part has no lesser value, a greater value no less up to it; all lie between the ends.
func TestRising(t *testing.T) {
	dice := rand.New(rand.NewSource(226))
	for range 200 {
		w := anyModel(dice, anyFineness(dice), 60)
		x := loaded(t, w)
		if x.Total() == 0 {
			continue
		}
		holdRising(t, x, dice)
		v, n := anyValue(dice), anyWeight(dice)
		wantAdd(t, x, v, n, api.OK)
		holdRising(t, x, dice)
	}
}

// holdRising holds P22.8 of any parts and values.
func holdRising(t *testing.T, x *digest.Digest, dice *rand.Rand) {
	t.Helper()
	least, most, _ := x.Ends()
	nums, values := []uint64{0, 1 << 62}, []int64{lowest, least, most, highest}
	for range 100 {
		nums, values = append(nums, dice.Uint64()>>(2+dice.Intn(62))), append(values, anyValue(dice))
	}
	slices.Sort(nums)
	slices.Sort(values)
	last := least
	for _, num := range nums {
		v, e := x.At(num, 1<<62)
		if e != api.OK || v < last || v > most || num == 0 && v != least || num == 1<<62 && v != most {
			t.Fatalf("At(%d, 1<<62): %d, %d, behind %d; %d to %d", num, v, e, last, least, most)
		}
		last = v
	}
	upto := uint64(0)
	for _, v := range values {
		n := x.Upto(v)
		if n < upto || n > x.Total() || v < least && n != 0 || v >= most && n != x.Total() {
			t.Fatalf("Upto(%d): %d of %d, behind %d; %d to %d", v, n, x.Total(), upto, least, most)
		}
		upto = n
	}
}

// P22.8: nothing that comes is lost, however often it is pressed.
func TestNothingIsLost(t *testing.T) {
	dice := rand.New(rand.NewSource(227))
	x, sum := empty(t, 10), uint64(0)
	for range 5000 {
		n := uint64(1 + dice.Intn(9))
		wantAdd(t, x, anyValue(dice), n, api.OK)
		sum += n
		if got := weight(append(x.List(), x.Waits()...)).Uint64(); got != sum || x.Total() != sum {
			t.Fatalf("means of %d, Total: %d, not %d", got, x.Total(), sum)
		}
	}
	if n := len(x.List()); n > 300 {
		t.Errorf("%d means", n)
	}
}
