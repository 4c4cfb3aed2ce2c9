package hdrmap_test

import (
	"math"
	"math/big"
	"math/rand"
	"testing"

	"theodolite/api"
	"theodolite/hdrmap"
)

// shapes are some of those that may be: each count of digits, with units from the least to the greatest one, and Lowests at both ends of a unit.
var shapes = []api.Hdr{
	{Lowest: 1, Highest: 2, Digits: 1},
	{Lowest: 1, Highest: 3600000000, Digits: 3},
	{Lowest: 1, Highest: math.MaxInt64, Digits: 2},
	{Lowest: 2, Highest: 4, Digits: 3},
	{Lowest: 3, Highest: 6, Digits: 1},
	{Lowest: 3, Highest: 1 << 40, Digits: 4},
	{Lowest: 4, Highest: 9, Digits: 2},
	{Lowest: 1000, Highest: 1843200000000, Digits: 3},
	{Lowest: 1023, Highest: 2046, Digits: 1},
	{Lowest: 1024, Highest: 2048, Digits: 1},
	{Lowest: 1<<31 - 1, Highest: 1 << 60, Digits: 2},
	{Lowest: 1 << 50, Highest: 1 << 51, Digits: 3},
	{Lowest: 1 << 51, Highest: math.MaxInt64, Digits: 3},
	{Lowest: 1<<52 - 1, Highest: math.MaxInt64, Digits: 3},
	{Lowest: 1 << 54, Highest: 1 << 62, Digits: 2},
	{Lowest: 1 << 57, Highest: 1 << 58, Digits: 1},
	{Lowest: 1<<58 - 1, Highest: 1<<59 - 2, Digits: 1},
	{Lowest: 1<<48 - 1, Highest: math.MaxInt64, Digits: 4},
	{Lowest: 1, Highest: 100000, Digits: 5},
	{Lowest: 1<<45 - 1, Highest: 1 << 46, Digits: 5},
}

// place is a cell by the chapter's words.
type place struct {
	index           int
	low, high, size int64
}

// model is a map by the chapter's words.
type model struct{ u, m, digits int }

// modelOf has a shape's unit and magnitude, powers of two being tried one by one.
func modelOf(h api.Hdr) model {
	w := model{digits: h.Digits}
	for power(2, w.u+1).Cmp(big.NewInt(h.Lowest)) <= 0 {
		w.u++
	}
	for power(2, w.m).Cmp(new(big.Int).Mul(big.NewInt(2), power(10, h.Digits))) < 0 {
		w.m++
	}
	return w
}

// half is 2^(m - 1).
func (w model) half() int { return int(power(2, w.m-1).Int64()) }

// bucket is the least b such that v is less than 2^(u + m + b).
func (w model) bucket(v int64) int {
	b := 0
	for big.NewInt(v).Cmp(power(2, w.u+w.m+b)) >= 0 {
		b++
	}
	return b
}

// place is the cell of a value from 0 on.
func (w model) place(v int64) place {
	b := w.bucket(v)
	size := power(2, w.u+b)
	times := new(big.Int).Quo(big.NewInt(v), size)
	low := new(big.Int).Mul(times, size)
	high := new(big.Int).Add(low, size)
	high.Sub(high, big.NewInt(1))
	if !high.IsInt64() {
		high.SetInt64(math.MaxInt64)
	}
	return place{(b+1)*w.half() + int(times.Int64()) - w.half(), low.Int64(), high.Int64(), size.Int64()}
}

// buckets is what P17.4's words make of Buckets.
func (w model) buckets(v int64) int {
	if v < 0 {
		return 1
	}
	return 1 + w.bucket(v)
}

// counted is how many buckets n counts as.
func counted(n int) int {
	switch {
	case n < 1:
		return 1
	case n > 64:
		return 64
	}
	return n
}

// cells is what P17.4's words make of Cells.
func (w model) cells(n int) int { return (counted(n) + 1) * w.half() }

// top is what P17.4's words make of Top: the last cell begins 2^m - 1 times its size from 0 on, and so ends 2^m times its size from there.
func (w model) top(n int) int64 {
	end := new(big.Int).Mul(power(2, w.m), power(2, w.u+counted(n)-1))
	end.Sub(end, big.NewInt(1))
	if !end.IsInt64() {
		return math.MaxInt64
	}
	return end.Int64()
}

// all is how many cells there are: as many as begin ahead of 2^63.
func (w model) all() int { return w.place(math.MaxInt64).index + 1 }

func power(b int64, n int) *big.Int {
	return new(big.Int).Exp(big.NewInt(b), big.NewInt(int64(n)), nil)
}

// anyValue is a value from 0 on, of any count of bits, or one near where buckets begin.
func anyValue(dice *rand.Rand) int64 {
	v := int64(dice.Uint64()>>1) >> dice.Intn(64)
	if dice.Intn(3) > 0 {
		return v
	}
	near := int64(1) << dice.Intn(63)
	return max(near+dice.Int63n(7)-3, 0)
}

// anyShape is a shape that may be.
func anyShape(dice *rand.Rand) api.Hdr {
	digits := 1 + dice.Intn(5)
	most := 62 - modelOf(api.Hdr{Lowest: 1, Digits: digits}).m
	lowest := 1 + dice.Int63()%(int64(1)<<dice.Intn(most+2)) // up to the last one whose unit may be
	lowest = min(lowest, int64(1)<<(most+1)-1)
	highest := 2 * lowest
	return api.Hdr{Lowest: lowest, Highest: highest + dice.Int63()%(math.MaxInt64-highest+1), Digits: digits}
}

// made is the map of a shape that may be.
func made(t *testing.T, h api.Hdr) *hdrmap.Map {
	t.Helper()
	x, e := hdrmap.New(h)
	if x == nil || e != api.OK {
		t.Fatalf("New(%d): %v, %d", h, x, e)
	}
	return x
}

// told is what a map tells of the cell of v.
func told(t *testing.T, x *hdrmap.Map, v int64) place {
	t.Helper()
	i, e := x.Index(v)
	low, f := x.Low(v)
	high, g := x.High(v)
	size, h := x.Size(v)
	if e != api.OK || f != api.OK || g != api.OK || h != api.OK {
		t.Fatalf("%d: Index, Low, High, Size of %d: %d, %d, %d, %d", x.Shape(), v, e, f, g, h)
	}
	return place{i, low, high, size}
}

// hold holds what a map tells of v against the model.
func hold(t *testing.T, x *hdrmap.Map, w model, v int64) {
	t.Helper()
	want := w.place(v)
	if got := told(t, x, v); got != want {
		t.Fatalf("%d: cell of %d: %d, not %d", x.Shape(), v, got, want)
	}
	if begin, e := x.Value(want.index); begin != want.low || e != api.OK {
		t.Fatalf("%d: Value(%d): %d, %d, not %d", x.Shape(), want.index, begin, e, want.low)
	}
	if n := x.Buckets(v); n != w.buckets(v) {
		t.Fatalf("%d: Buckets(%d): %d, not %d", x.Shape(), v, n, w.buckets(v))
	}
}
