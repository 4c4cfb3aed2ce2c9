package kll_test

import (
	"math"
	"math/rand"
	"slices"
	"testing"

	"theodolite/api"
)

// mixed is 3 once, -5 twice, 3 twice, 8 four times, with a ledger.
var mixed = model{8, [][]int64{{3}, {-5, 3}, {8}}, 6}

// P24.6: the value of each rank, with the ledger.
func TestAt(t *testing.T) {
	for _, c := range []struct {
		w    model
		want []int64 // of each rank
	}{
		{mixed, []int64{-5, -5, 3, 3, 3, 8, 8, 8, 8}},
		{model{8, [][]int64{{5}}, 0}, []int64{5}},
		{model{8, [][]int64{{1, 2, 3}}, deepest}, []int64{1, 2, 3}},
		{model{8, [][]int64{{4}, {2}, {1}}, 1}, []int64{1, 1, 1, 1, 2, 2, 4}},
		{model{8, [][]int64{{1}, {2}, {4}}, 1}, []int64{1, 2, 2, 4, 4, 4, 4}},
		{model{8, [][]int64{{lowest, highest}, {0}}, 1}, []int64{lowest, 0, 0, highest}},
		{model{8, [][]int64{nil, {5, 5}, {5}}, 1}, []int64{5, 5, 5, 5, 5, 5, 5, 5}},
	} {
		s := loaded(t, &c.w)
		all := uint64(len(c.want))
		for i, want := range c.want {
			if v, e, err := s.At(uint64(i)+1, all); v != want || e != c.w.ledger || err != api.OK {
				t.Errorf("%v: rank %d: %d, %d, %d, not %d", &c.w, i+1, v, e, err, want)
			}
		}
		if v, e, err := s.At(0, all); v != c.want[0] || e != c.w.ledger || err != api.OK {
			t.Errorf("%v: rank 0: %d, %d, %d", &c.w, v, e, err)
		}
		hold(t, s, &c.w)
	}
}

// P24.6: parts between ranks are those of the rank behind; parts with the greatest numbers.
func TestAtParts(t *testing.T) {
	s := loaded(t, &mixed)
	for _, c := range []struct {
		num, den uint64
		want     int64
	}{
		{1, 10, -5}, {2, 9, -5}, {2222, 10000, -5}, {2223, 10000, 3}, {1, 4, 3}, {5, 9, 3}, {55555, 100000, 3}, {55556, 100000, 8}, {6, 9, 8},
		{math.MaxUint64, math.MaxUint64, 8}, {math.MaxUint64 - 1, math.MaxUint64, 8}, {1, math.MaxUint64, -5}, {0, math.MaxUint64, -5}, {1 << 62, 1 << 63, 3},
	} {
		if v, e, err := s.At(c.num, c.den); v != c.want || e != 6 || err != api.OK {
			t.Errorf("At(%d, %d): %d, %d, %d, not %d", c.num, c.den, v, e, err, c.want)
		}
	}
}

// P24.6: which error At tells, of an empty stack, too; beside it there is no ledger.
func TestAtRefuses(t *testing.T) {
	for _, c := range []struct {
		num, den uint64
		none, ok api.Errno
	}{
		{0, 0, api.ErrQuant, api.ErrQuant},
		{1, 0, api.ErrQuant, api.ErrQuant},
		{2, 1, api.ErrQuant, api.ErrQuant},
		{math.MaxUint64, math.MaxUint64 - 1, api.ErrQuant, api.ErrQuant},
		{0, 1, api.ErrEmpty, api.OK},
		{1, 2, api.ErrEmpty, api.OK},
		{math.MaxUint64, math.MaxUint64, api.ErrEmpty, api.OK},
	} {
		if v, e, err := empty(t, 8).At(c.num, c.den); v != 0 || e != 0 || err != c.none {
			t.Errorf("nothing: At(%d, %d): %d, %d, %d", c.num, c.den, v, e, err)
		}
		s := loaded(t, &mixed)
		if v, e, err := s.At(c.num, c.den); err != c.ok || err != api.OK && (v != 0 || e != 0) {
			t.Errorf("mixed: At(%d, %d): %d, %d, %d", c.num, c.den, v, e, err)
		}
	}
}

// P24.6: how much is less, and how much isn't greater, about each value.
func TestBetween(t *testing.T) {
	ends := model{8, [][]int64{{lowest, highest}, {lowest}, {highest}}, 3}
	for _, c := range []struct {
		w          model
		v          int64
		less, upto uint64
	}{
		{mixed, lowest, 0, 0}, {mixed, -6, 0, 0}, {mixed, -5, 0, 2}, {mixed, -4, 2, 2}, {mixed, 2, 2, 2}, {mixed, 3, 2, 5},
		{mixed, 4, 5, 5}, {mixed, 7, 5, 5}, {mixed, 8, 5, 9}, {mixed, 9, 9, 9}, {mixed, highest, 9, 9},
		{ends, lowest, 0, 3}, {ends, lowest + 1, 3, 3}, {ends, 0, 3, 3}, {ends, highest - 1, 3, 3}, {ends, highest, 3, 8},
		{model{k: 8}, lowest, 0, 0}, {model{k: 8}, 0, 0, 0}, {model{k: 8}, highest, 0, 0},
		{model{8, level(48, 5), 0}, 4, 0, 0}, {model{8, level(48, 5), 0}, 5, 0, full}, {model{8, level(48, 5), 0}, 6, full, full},
	} {
		s := loaded(t, &c.w)
		if less, upto := s.Between(c.v); less != c.less || upto != c.upto {
			t.Errorf("%v: Between(%d): %d, %d, not %d, %d", &c.w, c.v, less, upto, c.less, c.upto)
		}
		hold(t, s, &c.w)
	}
}

// P24.9: the floor of the mean of all values by their weights, below 0, too.
func TestMean(t *testing.T) {
	for _, c := range []struct {
		levels [][]int64
		want   int64
		e      api.Errno
	}{
		{nil, 0, api.ErrEmpty},
		{[][]int64{{-3, 0}}, -2, api.OK},
		{[][]int64{{-3}, {4}}, 1, api.OK},
		{[][]int64{{3}, {-4}}, -2, api.OK},
		{[][]int64{{0}}, 0, api.OK},
		{[][]int64{{-1}, {0}, {0}, {0}}, -1, api.OK},
		{[][]int64{{lowest, highest}}, -1, api.OK},
		{level(47, lowest, highest), -1, api.OK},
		{level(48, highest), highest, api.OK},
		{level(48, lowest), lowest, api.OK},
		{append(level(46, lowest, highest), []int64{7}), 3, api.OK},
		{mixed.levels, 3, api.OK},
	} {
		w := &model{8, c.levels, 0}
		if v, e := loaded(t, w).Mean(); v != c.want || e != c.e {
			t.Errorf("%v: Mean: %d, %d, not %d, %d", w, v, e, c.want, c.e)
		}
	}
}

// P24.5: totals, ledgers, levels, and how many values they have.
func TestTold(t *testing.T) {
	for _, c := range []struct {
		w    model
		all  uint64
		kept int
	}{
		{model{k: 8}, 0, 0},
		{mixed, 9, 4},
		{model{8, level(48, 5), deepest}, full, 1},
		{model{8, [][]int64{{1, 2}, nil, {3}}, 5}, 6, 3},
		{model{8, [][]int64{row(1, 1, 6), row(1, 1, 8)}, 1}, 22, 14},
	} {
		s := loaded(t, &c.w)
		if s.Total() != c.all || s.Ledger() != c.w.ledger || s.Kept() != c.kept {
			t.Errorf("%v: Total: %d, Ledger: %d, Kept: %d", &c.w, s.Total(), s.Ledger(), s.Kept())
		}
		if l := s.Levels(); !slices.EqualFunc(l, c.w.levels, slices.Equal) {
			t.Errorf("%v: Levels: %d", &c.w, l)
		}
	}
}

// P24.6, P24.8: a greater part has no lesser value, a greater value no less weight up to it.
func TestRising(t *testing.T) {
	dice := rand.New(rand.NewSource(252))
	for range 200 {
		s := loaded(t, anyModel(dice, anySize(dice), 40))
		nums, values := []uint64{0, 1 << 62}, []int64{lowest, highest}
		for range 50 {
			nums, values = append(nums, dice.Uint64()>>(2+dice.Intn(62))), append(values, anyValue(dice))
		}
		slices.Sort(nums)
		slices.Sort(values)
		last := int64(lowest)
		for _, num := range nums {
			v, _, e := s.At(num, 1<<62)
			if e != api.OK || v < last {
				t.Fatalf("At(%d, 1<<62): %d, %d, behind %d", num, v, e, last)
			}
			last = v
		}
		ahead := uint64(0)
		for _, v := range slices.Compact(values) {
			less, upto := s.Between(v)
			if less < ahead || upto < less || upto > s.Total() {
				t.Fatalf("Between(%d): %d, %d of %d, behind %d", v, less, upto, s.Total(), ahead)
			}
			ahead = upto
		}
		if ahead != s.Total() {
			t.Fatalf("up to the greatest value: %d of %d", ahead, s.Total())
		}
	}
}
