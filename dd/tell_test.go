package dd_test

import (
	"math"
	"math/big"
	"math/rand"
	"slices"
	"testing"

	"theodolite/api"
	"theodolite/dd"
)

// P20.4: which error At tells, of an empty sketch, too.
func TestAtRefuses(t *testing.T) {
	for _, c := range []struct {
		num, den uint64
		none, ok api.Errno
	}{
		{0, 0, api.ErrQuant, api.ErrQuant},
		{1, 0, api.ErrQuant, api.ErrQuant},
		{2, 1, api.ErrQuant, api.ErrQuant},
		{math.MaxUint64, math.MaxUint64 - 1, api.ErrQuant, api.ErrQuant},
		{0, 1, api.ErrEmpty, api.OK},
		{1, 2, api.ErrEmpty, api.OK},
		{math.MaxUint64, math.MaxUint64, api.ErrEmpty, api.OK},
	} {
		if v, vague, e := empty(t, 5000, 2).At(c.num, c.den); v != 0 || vague || e != c.none {
			t.Errorf("nothing: At(%d, %d): %d, %t, %d", c.num, c.den, v, vague, e)
		}
		if v, vague, e := made(t, modelOf(5000, 2, few...)).At(c.num, c.den); e != c.ok || e != api.OK && (v != 0 || vague) {
			t.Errorf("few: At(%d, %d): %d, %t, %d", c.num, c.den, v, vague, e)
		}
	}
}

// P20.4: rank by rank what stands there, and whether it is vague, as more is folded or less.
func TestAt(t *testing.T) {
	for _, c := range []struct {
		m     int
		want  []int64 // by ranks from 1 to 10
		vague int     // so many of them
	}{
		{4, []int64{-4, 1, 1, 1, 1, 13, 13, 121, 121, 121}, 0},
		{3, []int64{1, 1, 1, 1, 1, 13, 13, 121, 121, 121}, 5},
		{2, []int64{13, 13, 13, 13, 13, 13, 13, 121, 121, 121}, 7},
		{4096, []int64{-4, 1, 1, 1, 1, 13, 13, 121, 121, 121}, 0},
	} {
		s := made(t, modelOf(5000, c.m, few...))
		for i, want := range c.want {
			if v, vague, e := s.At(uint64(i+1), 10); v != want || vague != (i < c.vague) || e != api.OK {
				t.Errorf("budget %d: At(%d, 10): %d, %t, %d", c.m, i+1, v, vague, e)
			}
		}
	}
}

// P20.4: how much is kept below a value's key, and up to it; of -2^63 there is none.
func TestBetween(t *testing.T) {
	s := made(t, modelOf(5000, 3, few...)) // keys 1, 3, 5: 5 times, 2, 3
	for _, c := range []struct {
		v           int64
		below, upto uint64
		e           api.Errno
	}{
		{least, 0, 0, api.ErrRange},
		{least + 1, 0, 0, api.OK},
		{-3, 0, 0, api.OK},
		{0, 0, 0, api.OK},
		{1, 0, 5, api.OK},
		{2, 0, 5, api.OK},
		{3, 5, 5, api.OK},
		{8, 5, 5, api.OK},
		{9, 5, 7, api.OK},
		{26, 5, 7, api.OK},
		{27, 7, 7, api.OK},
		{81, 7, 10, api.OK},
		{242, 7, 10, api.OK},
		{243, 10, 10, api.OK},
		{last, 10, 10, api.OK},
	} {
		if below, upto, e := s.Between(c.v); below != c.below || upto != c.upto || e != c.e {
			t.Errorf("Between(%d): %d, %d, %d", c.v, below, upto, e)
		}
	}
	if below, upto, e := empty(t, 5000, 2).Between(least); below != 0 || upto != 0 || e != api.ErrRange {
		t.Errorf("nothing: Between: %d, %d, %d", below, upto, e)
	}
}

// P20.5: the ends of what is kept, on both sides of 0 and at the numbers' own ends.
func TestEnds(t *testing.T) {
	for _, c := range []struct {
		m         int
		all       []came
		low, high int64
		e         api.Errno
	}{
		{2, nil, 0, 0, api.ErrEmpty},
		{2, []came{{0, 1}}, 0, 0, api.OK},
		{2, []came{{1, 1}}, 1, 2, api.OK},
		{2, []came{{-1, 1}}, -2, -1, api.OK},
		{2, []came{{-4, 1}, {4, 1}}, -8, 8, api.OK},
		{2, []came{{-4, 1}, {4, 1}, {0, 1}}, 0, 8, api.OK},
		{2, []came{{-40, 1}, {-4, 1}, {-400, 1}}, -80, -3, api.OK},
		{2, []came{{last, 1}, {least + 1, 1}}, -last, last, api.OK},
		{2, []came{{last, 1}}, 4052555153018976267, last, api.OK},
		{2, []came{{least + 1, 9}}, -last, -4052555153018976267, api.OK},
		{3, few, 1, 242, api.OK},
		{4, few, -8, 242, api.OK},
	} {
		if low, high, e := made(t, modelOf(5000, c.m, c.all...)).Ends(); low != c.low || high != c.high || e != c.e {
			t.Errorf("%d, %d: Ends: %d, %d, %d", c.m, c.all, low, high, e)
		}
	}
}

// P20.6: at each rank, what is told is as near to the value of that rank as was asked, or it is vague; what is vague is never too little, and is so just where more keys than the budget came, and the value's is not among the greatest ones, one fewer.
func TestNearness(t *testing.T) {
	dice := rand.New(rand.NewSource(206))
	hazy := 0
	for range 300 {
		a, m := anyAccuracy(dice), 2+dice.Intn(10)
		w := modelOf(a, m)
		for range 1 + dice.Intn(25) {
			w.all = append(w.all, came{anyValue(dice), uint64(1 + dice.Intn(3))})
		}
		hazy += holdNear(t, made(t, w), w)
	}
	if hazy < 300 {
		t.Errorf("%d were vague", hazy)
	}
}

// holdNear holds P20.6 at each rank of a sketch to which few things were added, and is how many of them were vague.
func holdNear(t *testing.T, s *dd.Sketch, w *model) int {
	t.Helper()
	var row []int64
	for _, c := range w.all {
		for range c.n {
			row = append(row, c.v)
		}
	}
	slices.Sort(row)
	var keys []int
	for _, x := range row {
		keys = append(keys, w.key(x))
	}
	keys = slices.Compact(keys)
	greatest := keys[max(len(keys)-w.m+1, 0):]
	hazy := 0
	for i, x := range row {
		v, vague, e := s.At(uint64(i+1), uint64(len(row)))
		if e != api.OK {
			t.Fatalf("%v: rank %d: %d", w, i+1, e)
		}
		if want := len(keys) > w.m && !slices.Contains(greatest, w.key(x)); vague != want {
			t.Fatalf("%v: rank %d: %d, vague: %t", w, i+1, v, vague)
		}
		off := new(big.Int).Sub(big.NewInt(v), big.NewInt(x))
		if vague {
			hazy++
			off = off.Neg(off) // how much too little it is
		} else {
			off.Abs(off)
		}
		may := new(big.Int).Abs(big.NewInt(x))
		if off.Mul(off, big.NewInt(10000)).Cmp(may.Mul(may, big.NewInt(int64(w.a)))) > 0 {
			t.Fatalf("%v: rank %d: %d is too far from %d, vague: %t", w, i+1, v, x, vague)
		}
	}
	return hazy
}

// P20.7: values that are added in any order, by any ways of taking together, keep the same.
func TestOrder(t *testing.T) {
	dice := rand.New(rand.NewSource(207))
	for range 200 {
		a, m := anyAccuracy(dice), 2+dice.Intn(12)
		w := modelOf(a, m, anyValues(dice, 60)...)
		l := make([]*dd.Sketch, 1+dice.Intn(6))
		for i := range l {
			l[i] = empty(t, a, m)
		}
		for _, c := range shuffled(dice, w.all) {
			some := dice.Uint64() % (c.n + 1)
			for _, n := range []uint64{some, c.n - some} {
				if n > 0 {
					wantAdd(t, l[dice.Intn(len(l))], c.v, n, api.OK)
				}
			}
		}
		for len(l) > 1 {
			l = shuffled(dice, l)
			wantTake(t, l[0], l[1], api.OK)
			l = slices.Delete(l, 1, 2)
		}
		holdAll(t, l[0], w)
	}
}
