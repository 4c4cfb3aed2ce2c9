package wide_test

import (
	"math"
	"math/rand"
	"slices"
	"testing"

	"theodolite/api"
	"theodolite/wide"
)

const (
	least    = math.MinInt64
	greatest = math.MaxInt64
)

// holdAvg holds Avg against the chapter's words, and asks that it lies between both numbers.
func holdAvg(t *testing.T, m int64, v uint64, n int64, w uint64) {
	t.Helper()
	got, e := wide.Avg(m, v, n, w)
	if want, f := mean([]wide.Term{{V: m, N: v}, {V: n, N: w}}); got != want || e != f {
		t.Fatalf("Avg(%d, %d, %d, %d): %d, %d, not %d, %d", m, v, n, w, got, e, want, f)
	}
	if e == api.OK && (got < min(m, n) || got > max(m, n)) {
		t.Fatalf("Avg(%d, %d, %d, %d): %d isn't between", m, v, n, w, got)
	}
	if again, f := wide.Avg(n, w, m, v); again != got || f != e {
		t.Fatalf("Avg(%d, %d, %d, %d) the other way round: %d, %d", m, v, n, w, again, f)
	}
}

// P10.3, P10.5: averages of two, of any signs and weights.
func TestAvg(t *testing.T) {
	dice := rand.New(rand.NewSource(5))
	for _, m := range signedEnds() {
		for _, n := range signedEnds() {
			for _, v := range ends() {
				for _, w := range ends() {
					holdAvg(t, m, v, n, w)
				}
			}
		}
	}
	for m := int64(-7); m <= 7; m++ {
		for n := int64(-7); n <= 7; n++ {
			for v := range uint64(9) {
				for w := range uint64(9) {
					holdAvg(t, m, v, n, w)
				}
			}
		}
	}
	for range 20000 {
		v := any64(dice)
		holdAvg(t, anySigned(dice), v, anySigned(dice), any64(dice))
		holdAvg(t, anySigned(dice), v, anySigned(dice), full-v)
	}
}

// P10.3: the floor goes down below 0, too; weights together of 0, of 2^64 less 1, and of 2^64.
func TestAvgEdges(t *testing.T) {
	for _, c := range []struct {
		m    int64
		v    uint64
		n    int64
		w    uint64
		want int64
		e    api.Errno
	}{
		{0, 1, 1, 1, 0, api.OK},
		{0, 1, -1, 1, -1, api.OK},
		{-1, 1, -2, 2, -2, api.OK},
		{-1, 2, -2, 1, -2, api.OK},
		{-1, 1, -3, 1, -2, api.OK},
		{1, full - 1, 0, 1, 0, api.OK},
		{-1, 1, 0, full - 1, -1, api.OK},
		{greatest, 1, least, 1, -1, api.OK},
		{greatest, 2, least, 1, 3074457345618258602, api.OK},
		{greatest, 1, least, 2, -3074457345618258603, api.OK},
		{5, 0, 9, 3, 9, api.OK},
		{5, 3, 9, 0, 5, api.OK},
		{least, full, greatest, 0, least, api.OK},
		{least, 0, greatest, full, greatest, api.OK},
		{least, 1 << 63, least, 1<<63 - 1, least, api.OK},
		{greatest, 1 << 63, greatest, 1<<63 - 1, greatest, api.OK},
		{5, 0, 9, 0, 0, api.ErrWide},
		{least, 0, least, 0, 0, api.ErrWide},
		{5, 1 << 63, 5, 1 << 63, 0, api.ErrWide},
		{5, full, 5, 1, 0, api.ErrWide},
		{5, 1, 5, full, 0, api.ErrWide},
		{0, full, 0, full, 0, api.ErrWide},
		{5, 1 << 63, 5, 1<<63 + 1, 0, api.ErrWide},
	} {
		if got, e := wide.Avg(c.m, c.v, c.n, c.w); got != c.want || e != c.e {
			t.Errorf("Avg(%d, %d, %d, %d): %d, %d", c.m, c.v, c.n, c.w, got, e)
		}
	}
}

// P10.4, P10.5: from low on, cut off to a whole number; it lies between, and is low at 0 and high at the whole.
func TestLerp(t *testing.T) {
	dice := rand.New(rand.NewSource(6))
	hold := func(low, high int64, at, of uint64) {
		t.Helper()
		got, e := wide.Lerp(low, high, at, of)
		if want, f := lerp(low, high, at, of); got != want || e != f {
			t.Fatalf("Lerp(%d, %d, %d, %d): %d, %d, not %d, %d", low, high, at, of, got, e, want, f)
		}
		if e != api.OK {
			return
		}
		if got < low || got > high || at == 0 && got != low || at == of && got != high {
			t.Fatalf("Lerp(%d, %d, %d, %d): %d", low, high, at, of, got)
		}
	}
	for _, low := range signedEnds() {
		for _, high := range signedEnds() {
			for _, at := range ends() {
				for _, of := range ends() {
					hold(low, high, at, of)
				}
			}
		}
	}
	for low := int64(-7); low <= 7; low++ {
		for high := int64(-7); high <= 7; high++ {
			for at := range uint64(9) {
				for of := range uint64(9) {
					hold(low, high, at, of)
				}
			}
		}
	}
	for range 20000 {
		m, n, v, w := anySigned(dice), anySigned(dice), any64(dice), any64(dice)
		hold(m, n, v, w)
		hold(min(m, n), max(m, n), min(v, w), max(v, w))
		hold(min(m, n), max(m, n), max(v, w), max(v, w))
	}
}

// P10.4: the floor goes down from low on, on either side of 0; what may not be.
func TestLerpEdges(t *testing.T) {
	for _, c := range []struct {
		low, high int64
		at, of    uint64
		want      int64
		e         api.Errno
	}{
		{-10, 10, 2, 3, 3, api.OK},
		{-3, 0, 1, 2, -2, api.OK},
		{-2, 1, 1, 2, -1, api.OK},
		{0, 3, 1, 2, 1, api.OK},
		{5, 5, 0, 1, 5, api.OK},
		{-5, -5, full, full, -5, api.OK},
		{least, greatest, 0, full, least, api.OK},
		{least, greatest, full, full, greatest, api.OK},
		{least, greatest, 1 << 63, full, 0, api.OK},
		{least, greatest, 1<<63 - 1, full, -1, api.OK},
		{least, greatest, full - 1, full, greatest - 1, api.OK},
		{least, greatest, 1, 2, -1, api.OK},
		{least, least, 1, 1, least, api.OK},
		{greatest, greatest, 1, 3, greatest, api.OK},
		{6, 5, 1, 2, 0, api.ErrWide},
		{6, 5, 0, 2, 0, api.ErrWide},
		{greatest, least, 1, 2, 0, api.ErrWide},
		{0, -1, 1, 2, 0, api.ErrWide},
		{5, 6, 3, 2, 0, api.ErrWide},
		{5, 5, 2, 1, 0, api.ErrWide},
		{5, 6, full, full - 1, 0, api.ErrWide},
		{5, 6, 0, 0, 0, api.ErrWide},
		{5, 5, 0, 0, 0, api.ErrWide},
		{5, 6, 1, 0, 0, api.ErrWide},
		{6, 5, 1, 0, 0, api.ErrWide},
	} {
		if got, e := wide.Lerp(c.low, c.high, c.at, c.of); got != c.want || e != c.e {
			t.Errorf("Lerp(%d, %d, %d, %d): %d, %d", c.low, c.high, c.at, c.of, got, e)
		}
	}
}

// P10.5: Lerp never falls when at grows.
func TestLerpRises(t *testing.T) {
	dice := rand.New(rand.NewSource(7))
	hold := func(low, high int64, of uint64, at []uint64) {
		t.Helper()
		slices.Sort(at)
		was := low
		for _, x := range at {
			got, e := wide.Lerp(low, high, x, of)
			if got < was || e != api.OK {
				t.Fatalf("Lerp(%d, %d, %d, %d): %d, %d behind %d", low, high, x, of, got, e, was)
			}
			was = got
		}
	}
	for range 300 {
		m, n, of := anySigned(dice), anySigned(dice), any64(dice)|1
		at := []uint64{0, of}
		for range 50 {
			x := dice.Uint64() % of
			at = append(at, x, x+1)
		}
		hold(min(m, n), max(m, n), of, at)
		hold(least, greatest, of, at)
	}
}

// P10.6: means of any terms, in any order.
func TestMean(t *testing.T) {
	dice := rand.New(rand.NewSource(8))
	hold := func(l []wide.Term) {
		t.Helper()
		got, e := wide.Mean(l)
		if want, f := mean(l); got != want || e != f {
			t.Fatalf("Mean(%d): %d, %d, not %d, %d", l, got, e, want, f)
		}
	}
	for range 5000 {
		l := anyTerms(dice, 1+dice.Intn(8))
		hold(l)
		slices.Reverse(l)
		hold(l)
		dice.Shuffle(len(l), func(i, k int) { l[i], l[k] = l[k], l[i] })
		hold(l)
	}
	for _, v := range signedEnds() {
		for _, n := range ends() {
			hold([]wide.Term{{V: v, N: n}})
			hold([]wide.Term{{V: v, N: n}, {V: -v, N: 1}, {V: 1, N: 1}})
			hold([]wide.Term{{V: v, N: 0}, {V: greatest, N: 0}, {V: least, N: n}})
			hold([]wide.Term{{V: v, N: 2}, {V: least, N: n / 2}, {V: greatest, N: n / 2}})
		}
	}
	hold(anyTerms(dice, 100000))
}

// P10.6: no weight at all, weights of 2^64 less 1 and of 2^64 together, and ones that are few again modulo 2^64.
func TestMeanEdges(t *testing.T) {
	type l = []wide.Term
	half := uint64(1 << 63)
	for _, c := range []struct {
		l    []wide.Term
		want int64
		e    api.Errno
	}{
		{nil, 0, api.ErrWide},
		{l{}, 0, api.ErrWide},
		{l{{5, 0}}, 0, api.ErrWide},
		{l{{5, 0}, {least, 0}, {greatest, 0}}, 0, api.ErrWide},
		{l{{5, 1}}, 5, api.OK},
		{l{{5, full}}, 5, api.OK},
		{l{{least, full}}, least, api.OK},
		{l{{greatest, full}}, greatest, api.OK},
		{l{{least, 1}, {greatest, 1}}, -1, api.OK},
		{l{{least, half - 1}, {greatest, half}}, 0, api.OK},
		{l{{least, half}, {greatest, half - 1}}, -1, api.OK},
		{l{{5, 0}, {7, 2}, {9, 0}}, 7, api.OK},
		{l{{5, full - 2}, {5, 1}, {5, 1}}, 5, api.OK},
		{l{{5, full}, {9, 0}}, 5, api.OK},
		{l{{-1, 1}, {0, 9}}, -1, api.OK},
		{l{{-1, 1}, {-2, 1}, {-2, 1}}, -2, api.OK},
		{l{{1, 1}, {0, 9}}, 0, api.OK},
		{l{{5, full}, {5, 1}}, 0, api.ErrWide},
		{l{{5, 1}, {5, full}}, 0, api.ErrWide},
		{l{{5, half}, {5, half}}, 0, api.ErrWide},
		{l{{5, half}, {5, half}, {5, 1}}, 0, api.ErrWide},
		{l{{5, half}, {5, half}, {5, half}, {5, half}, {5, 3}}, 0, api.ErrWide},
		{l{{0, full}, {0, full}, {0, full}}, 0, api.ErrWide},
		{l{{least, full}, {least, 2}}, 0, api.ErrWide},
		{l{{greatest, full}, {greatest, full}, {greatest, 5}, {greatest, 0}}, 0, api.ErrWide},
	} {
		if got, e := wide.Mean(c.l); got != c.want || e != c.e {
			t.Errorf("Mean(%d): %d, %d", c.l, got, e)
		}
	}
}

// The rules that hold everywhere: what is handed in is not changed, its spare room neither; an answer is always the same.
func TestArguments(t *testing.T) {
	dice := rand.New(rand.NewSource(9))
	for many := range 20 {
		room := anyTerms(dice, many+3)
		was := slices.Clone(room)
		got, e := wide.Mean(room[:many])
		if !slices.Equal(room, was) {
			t.Fatalf("what was handed in is changed: %d, not %d", room, was)
		}
		clear(room)
		if again, f := wide.Mean(was[:many]); again != got || f != e {
			t.Errorf("Mean(%d): %d, %d, and then %d, %d", was[:many], got, e, again, f)
		}
	}
	x, y := wide.Num{Hi: 7, Lo: 3}, wide.Num{Hi: 2, Lo: 9}
	x.Add(y)
	x.Sub(y)
	x.Cmp(y)
	x.Div(5)
	if (x != wide.Num{Hi: 7, Lo: 3}) || (y != wide.Num{Hi: 2, Lo: 9}) {
		t.Errorf("numbers are changed: %d, %d", x, y)
	}
}
