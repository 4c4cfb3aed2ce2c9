package hdrmap_test

import (
	"math"
	"math/big"
	"math/rand"
	"testing"

	"theodolite/api"
	"theodolite/hdrmap"
)

// P17.1 to P17.4: the chapter's examples.
func TestExamples(t *testing.T) {
	x := made(t, api.Hdr{Lowest: 1, Highest: 3600000000, Digits: 3})
	if u, m := x.Unit(), x.Magnitude(); u != 0 || m != 11 {
		t.Errorf("Unit, Magnitude: %d, %d", u, m)
	}
	for v, want := range map[int64]int{0: 0, 2047: 2047, 2048: 2048, 2049: 2048, 4096: 3072} {
		if i, e := x.Index(v); i != want || e != api.OK {
			t.Errorf("Index(%d): %d, %d, not %d", v, i, e, want)
		}
	}
	if got := told(t, x, 10007); got.low != 10000 || got.high != 10007 || got.size != 8 {
		t.Errorf("cell of 10007: %d", got)
	}
	if n, c := x.Buckets(3600000000), x.Cells(22); n != 22 || c != 23552 {
		t.Errorf("Buckets, Cells: %d, %d", n, c)
	}
}

// P17.3: cells that are told of the published HdrHistogram, with a unit and without one.
func TestPublished(t *testing.T) {
	for _, c := range []struct{ v, low, high, size int64 }{
		{1, 1, 1, 1}, {1025, 1025, 1025, 1}, {2047, 2047, 2047, 1}, {2048, 2048, 2049, 2}, {2500, 2500, 2501, 2},
		{4097, 4096, 4099, 4}, {8180, 8180, 8183, 4}, {8191, 8188, 8191, 4}, {8192, 8192, 8199, 8}, {8193, 8192, 8199, 8},
		{9995, 9992, 9999, 8}, {10000, 10000, 10007, 8}, {10007, 10000, 10007, 8}, {10008, 10008, 10015, 8},
	} {
		got := told(t, made(t, api.Hdr{Lowest: 1, Highest: 3600000000, Digits: 3}), c.v)
		if got.low != c.low || got.high != c.high || got.size != c.size {
			t.Errorf("cell of %d: %d", c.v, got)
		}
		got = told(t, made(t, api.Hdr{Lowest: 1000, Highest: 1843200000000, Digits: 3}), c.v*512)
		if got.low != c.low*512 || got.high != c.high*512+511 || got.size != c.size*512 {
			t.Errorf("cell of %d, unit 9: %d", c.v*512, got)
		}
	}
}

// P17.1: which shapes may not be, each by one of its numbers.
func TestNewRefuses(t *testing.T) {
	for _, h := range []api.Hdr{
		{},
		{Lowest: 1, Highest: 2, Digits: 0},
		{Lowest: 1, Highest: 2, Digits: -1},
		{Lowest: 1, Highest: 2, Digits: 6},
		{Lowest: 1, Highest: 2, Digits: math.MinInt},
		{Lowest: 1, Highest: 2, Digits: math.MaxInt},
		{Lowest: 0, Highest: 2, Digits: 1},
		{Lowest: 0, Highest: 0, Digits: 1},
		{Lowest: -1, Highest: 2, Digits: 1},
		{Lowest: -4, Highest: -2, Digits: 1},
		{Lowest: math.MinInt64, Highest: 2, Digits: 1},
		{Lowest: math.MinInt64, Highest: math.MinInt64, Digits: 1},
		{Lowest: math.MinInt64, Highest: math.MaxInt64, Digits: 1},
		{Lowest: 1, Highest: 1, Digits: 1},
		{Lowest: 1, Highest: 0, Digits: 1},
		{Lowest: 1, Highest: -2, Digits: 1},
		{Lowest: 1, Highest: math.MinInt64, Digits: 1},
		{Lowest: 5, Highest: 9, Digits: 3},
		{Lowest: 1000, Highest: 1999, Digits: 3},
		{Lowest: 1<<58 - 1, Highest: 1<<59 - 3, Digits: 1},
		{Lowest: 1 << 58, Highest: math.MaxInt64, Digits: 1},
		{Lowest: 1 << 55, Highest: math.MaxInt64, Digits: 2},
		{Lowest: 1 << 52, Highest: math.MaxInt64, Digits: 3},
		{Lowest: 1 << 48, Highest: math.MaxInt64, Digits: 4},
		{Lowest: 1 << 45, Highest: math.MaxInt64, Digits: 5},
		{Lowest: 1 << 62, Highest: math.MaxInt64, Digits: 1},
		{Lowest: 1<<62 + 1, Highest: math.MaxInt64, Digits: 1},
		{Lowest: 1 << 62, Highest: 0, Digits: 1},
		{Lowest: math.MaxInt64, Highest: math.MaxInt64, Digits: 1},
	} {
		if x, e := hdrmap.New(h); x != nil || e != api.ErrArg {
			t.Errorf("New(%d): %v, %d", h, x, e)
		}
	}
}

// P17.1: which shapes may be, up to the last one by each of its numbers, and what they are told to be.
func TestNew(t *testing.T) {
	dice := rand.New(rand.NewSource(171))
	l := shapes
	for range 3000 {
		l = append(l[:len(l):len(l)], anyShape(dice))
	}
	for _, h := range l {
		x, w := made(t, h), modelOf(h)
		if x.Shape() != h || x.Unit() != w.u || x.Magnitude() != w.m {
			t.Fatalf("New(%d): %d, %d, %d, not %d, %d", h, x.Shape(), x.Unit(), x.Magnitude(), w.u, w.m)
		}
	}
	for digits, want := range map[int][2]int{1: {5, 57}, 2: {8, 54}, 3: {11, 51}, 4: {15, 47}, 5: {18, 44}} {
		for u := range want[1] + 1 {
			for _, lowest := range []int64{1 << u, 1<<(u+1) - 1} {
				x := made(t, api.Hdr{Lowest: lowest, Highest: 2 * lowest, Digits: digits})
				if x.Unit() != u || x.Magnitude() != want[0] {
					t.Errorf("New of %d, %d digits: %d, %d", lowest, digits, x.Unit(), x.Magnitude())
				}
			}
		}
	}
}

// P17.2, P17.3, P17.5: all cells, one behind the other, without gaps, up to the last value of all.
func TestAllCells(t *testing.T) {
	for _, h := range shapes {
		if testing.Short() && h.Digits > 3 {
			continue
		}
		x, w := made(t, h), modelOf(h)
		half, all := w.half(), w.all()
		for i, begin := 0, int64(0); i < all; i++ {
			size := int64(1) << w.u << max(i/half-1, 0)
			want := place{i, begin, begin + (size - 1), size}
			if first, last := told(t, x, begin), told(t, x, want.high); first != want || last != want {
				t.Fatalf("%d: cell %d: %d, %d, not %d", h, i, first, last, want)
			}
			if at, e := x.Value(i); at != begin || e != api.OK {
				t.Fatalf("%d: Value(%d): %d, %d, not %d", h, i, at, e, begin)
			}
			if i == all-1 && want.high != math.MaxInt64 {
				t.Fatalf("%d: the last cell ends with %d", h, want.high)
			}
			begin += size
		}
	}
}

// P17.2, P17.3, P17.4: any values of any shapes, and those about where buckets begin.
func TestValues(t *testing.T) {
	dice := rand.New(rand.NewSource(172))
	for _, h := range shapes {
		x, w := made(t, h), modelOf(h)
		for n := range 64 {
			for near := int64(-2); near <= 2; near++ {
				hold(t, x, w, max(int64(uint64(1)<<n-1)+near, 0))
			}
		}
		for _, v := range []int64{0, 1, h.Lowest - 1, h.Lowest, h.Highest, math.MaxInt64 - 1, math.MaxInt64} {
			hold(t, x, w, v)
		}
	}
	for range 300 {
		h := anyShape(dice)
		x, w := made(t, h), modelOf(h)
		for range 30 {
			hold(t, x, w, anyValue(dice))
		}
	}
}

// P17.2: indexes that no cell has, on both sides.
func TestNoCell(t *testing.T) {
	for _, h := range shapes {
		x, w := made(t, h), modelOf(h)
		all, half := w.all(), w.half()
		for _, i := range []int{math.MinInt, math.MinInt + 1, -half - 1, -half, 1 - half, -2, -1, all, all + 1, all + half - 1, all + half, all + 100*half, math.MaxInt32, math.MaxInt - half, math.MaxInt} {
			if v, e := x.Value(i); v != 0 || e != api.ErrRange {
				t.Errorf("%d: Value(%d): %d, %d", h, i, v, e)
			}
		}
		last := w.place(math.MaxInt64)
		if v, e := x.Value(all - 1); v != last.low || e != api.OK {
			t.Errorf("%d: Value(%d): %d, %d, not %d", h, all-1, v, e, last.low)
		}
	}
}

// P17.2 to P17.4: values below 0 have no cell.
func TestBelow(t *testing.T) {
	for _, h := range shapes {
		x := made(t, h)
		for _, v := range []int64{-1, -2, -h.Lowest, -h.Highest, math.MinInt64 + 1, math.MinInt64} {
			if i, e := x.Index(v); i != 0 || e != api.ErrRange {
				t.Errorf("%d: Index(%d): %d, %d", h, v, i, e)
			}
			for name, call := range map[string]func(int64) (int64, api.Errno){"Low": x.Low, "High": x.High, "Size": x.Size} {
				if n, e := call(v); n != 0 || e != api.ErrRange {
					t.Errorf("%d: %s(%d): %d, %d", h, name, v, n, e)
				}
			}
			if x.Same(v, v) || x.Same(v, 0) || x.Same(0, v) || x.Same(v, -1) {
				t.Errorf("%d: Same of %d", h, v)
			}
			if n := x.Buckets(v); n != 1 {
				t.Errorf("%d: Buckets(%d): %d", h, v, n)
			}
		}
	}
}

// P17.3: values are the same just from their cell's least one to its greatest one.
func TestSame(t *testing.T) {
	dice := rand.New(rand.NewSource(173))
	for _, h := range shapes {
		x, w := made(t, h), modelOf(h)
		for range 300 {
			v := anyValue(dice)
			p := w.place(v)
			for _, c := range []struct {
				w    int64
				same bool
			}{
				{v, true}, {p.low, true}, {p.high, true}, {p.low + dice.Int63n(p.size), true},
				{p.low - 1, false}, {-v - 1, false},
			} {
				if x.Same(v, c.w) != c.same || x.Same(c.w, v) != c.same {
					t.Fatalf("%d: Same(%d, %d) isn't %t", h, v, c.w, c.same)
				}
			}
			if p.high < math.MaxInt64 && (x.Same(v, p.high+1) || x.Same(p.high+1, v)) {
				t.Fatalf("%d: Same(%d, %d)", h, v, p.high+1)
			}
		}
	}
}

// P17.4: how many cells any count of buckets has, and where they end.
func TestCounts(t *testing.T) {
	for _, h := range shapes {
		x, w := made(t, h), modelOf(h)
		counts := []int{math.MinInt, math.MinInt + 1, math.MaxInt32, math.MaxInt - 1, math.MaxInt}
		for n := -3; n <= 70; n++ {
			counts = append(counts, n)
		}
		for _, n := range counts {
			if c := x.Cells(n); c != w.cells(n) {
				t.Errorf("%d: Cells(%d): %d, not %d", h, n, c, w.cells(n))
			}
			if v := x.Top(n); v != w.top(n) {
				t.Errorf("%d: Top(%d): %d, not %d", h, n, v, w.top(n))
			}
		}
		for n := 1; n <= w.buckets(math.MaxInt64); n++ {
			at, _ := x.Index(x.Top(n))
			if x.Buckets(x.Top(n)) != n || at != x.Cells(n)-1 {
				t.Errorf("%d: Top(%d): %d, of cell %d", h, n, x.Top(n), at)
			}
		}
	}
}

// P17.5: no value of a cell is far from its greatest one; the value's own cell begins at Value of its index; indexes rise.
func TestNear(t *testing.T) {
	dice := rand.New(rand.NewSource(174))
	for range 2000 {
		h := anyShape(dice)
		x, w := made(t, h), modelOf(h)
		for range 20 {
			v, more := anyValue(dice), anyValue(dice)
			at := told(t, x, v)
			off := new(big.Int).Mul(big.NewInt(at.high-v), power(10, h.Digits))
			room := new(big.Int).Mul(power(10, h.Digits), power(2, w.u))
			if off.Cmp(big.NewInt(v)) >= 0 && off.Cmp(room) >= 0 {
				t.Fatalf("%d: %d is far from %d", h, v, at.high)
			}
			if begin, e := x.Value(at.index); begin != at.low || e != api.OK || begin > v || v > at.high {
				t.Fatalf("%d: %d isn't from %d to %d", h, v, begin, at.high)
			}
			other := told(t, x, more)
			if v <= more && at.index > other.index || v >= more && at.index < other.index || (at.index == other.index) != x.Same(v, more) {
				t.Fatalf("%d: %d of cell %d, %d of cell %d", h, v, at.index, more, other.index)
			}
		}
	}
}

// Rule 6: what a map tells hangs on its shape alone, whatever was asked of others, or of it, ahead.
func TestAlike(t *testing.T) {
	dice := rand.New(rand.NewSource(175))
	for _, h := range shapes {
		x, y := made(t, h), made(t, h)
		first := told(t, x, 12345)
		for range 100 {
			v := anyValue(dice)
			if told(t, x, v) != told(t, y, v) {
				t.Fatalf("%d: cells of %d", h, v)
			}
			made(t, anyShape(dice))
		}
		if told(t, x, 12345) != first || x.Shape() != h {
			t.Fatalf("%d: is another map", h)
		}
	}
}
