package wide_test

import (
	"math"
	"math/rand"
	"testing"

	"theodolite/api"
	"theodolite/wide"
)

const full = math.MaxUint64

// P10.1 to P10.6: the chapter's examples.
func TestExamples(t *testing.T) {
	if x := wide.Mul(1<<63, 4); x != (wide.Num{Hi: 2}) {
		t.Errorf("Mul: %d", x)
	}
	if n, left, e := wide.MulDiv(1<<63, 4, 8); n != 1<<62 || left != 0 || e != api.OK {
		t.Errorf("MulDiv: %d, %d, %d", n, left, e)
	}
	if n, e := wide.Ceil(7, 1, 2); n != 4 || e != api.OK {
		t.Errorf("Ceil: %d, %d", n, e)
	}
	if n, e := wide.Avg(-3, 1, 0, 1); n != -2 || e != api.OK {
		t.Errorf("Avg: %d, %d", n, e)
	}
	if n, e := wide.Lerp(-10, 10, 1, 3); n != -4 || e != api.OK {
		t.Errorf("Lerp: %d, %d", n, e)
	}
	if n, e := wide.Mean([]wide.Term{{V: -3, N: 1}, {V: 4, N: 2}}); n != 1 || e != api.OK {
		t.Errorf("Mean: %d, %d", n, e)
	}
}

// P10.1: the product of any two numbers is the one that numbers of any size have.
func TestMul(t *testing.T) {
	dice := rand.New(rand.NewSource(1))
	hold := func(a, b uint64) {
		if x := wide.Mul(a, b); whole(x).Cmp(product(num(a), num(b))) != 0 {
			t.Fatalf("Mul(%d, %d): %d", a, b, x)
		}
	}
	for _, a := range ends() {
		for _, b := range ends() {
			hold(a, b)
		}
	}
	for range 20000 {
		hold(any64(dice), any64(dice))
	}
	if x := wide.Mul(full, full); x != (wide.Num{Hi: full - 1, Lo: 1}) {
		t.Errorf("the greatest product: %d", x)
	}
}

// holdSums holds Add, Sub and Cmp of x and y against numbers of any size.
func holdSums(t *testing.T, x, y wide.Num) {
	t.Helper()
	both := sum(whole(x), whole(y))
	got, e := x.Add(y)
	if tooMuch := both.BitLen() > 128; tooMuch && (got != wide.Num{} || e != api.ErrWide) ||
		!tooMuch && (whole(got).Cmp(both) != 0 || e != api.OK) {
		t.Fatalf("%d and %d: %d, %d", x, y, got, e)
	}
	less := rest(whole(x), whole(y))
	got, e = x.Sub(y)
	if below := less.Sign() < 0; below && (got != wide.Num{} || e != api.ErrWide) ||
		!below && (whole(got).Cmp(less) != 0 || e != api.OK) {
		t.Fatalf("%d less %d: %d, %d", x, y, got, e)
	}
	if got := x.Cmp(y); got != less.Sign() {
		t.Fatalf("%d against %d: %d", x, y, got)
	}
}

// P10.1: sums, what is left, and which one is more.
func TestSums(t *testing.T) {
	dice := rand.New(rand.NewSource(2))
	l := wides()
	for _, x := range l {
		for _, y := range l {
			holdSums(t, x, y)
		}
	}
	for range 20000 {
		x, y := anyWide(dice), anyWide(dice)
		holdSums(t, x, y)
		holdSums(t, x, x)
		holdSums(t, x, wide.Num{Hi: x.Hi, Lo: y.Lo})
		holdSums(t, x, wide.Num{Hi: y.Hi, Lo: x.Lo})
	}
}

// P10.1: the edges: a sum of 2^128 less 1 and of 2^128, a rest of 0 and one below it, one half alone that makes the difference.
func TestSumsEdges(t *testing.T) {
	type Num = wide.Num
	for _, c := range []struct {
		x, y, both Num
		e          api.Errno
		less       Num
		f          api.Errno
		cmp        int
	}{
		{Num{}, Num{}, Num{}, api.OK, Num{}, api.OK, 0},
		{Num{0, full}, Num{0, 1}, Num{1, 0}, api.OK, Num{0, full - 1}, api.OK, 1},
		{Num{1, 0}, Num{0, 1}, Num{1, 1}, api.OK, Num{0, full}, api.OK, 1},
		{Num{0, full}, Num{1, 0}, Num{1, full}, api.OK, Num{}, api.ErrWide, -1},
		{Num{full, full}, Num{0, 0}, Num{full, full}, api.OK, Num{full, full}, api.OK, 1},
		{Num{full, full}, Num{0, 1}, Num{}, api.ErrWide, Num{full, full - 1}, api.OK, 1},
		{Num{full, 0}, Num{0, full}, Num{full, full}, api.OK, Num{full - 1, 1}, api.OK, 1},
		{Num{full, 1}, Num{0, full}, Num{}, api.ErrWide, Num{full - 1, 2}, api.OK, 1},
		{Num{1 << 63, 0}, Num{1 << 63, 0}, Num{}, api.ErrWide, Num{}, api.OK, 0},
		{Num{1 << 63, 5}, Num{1<<63 - 1, 5}, Num{full, 10}, api.OK, Num{1, 0}, api.OK, 1},
		{Num{7, 5}, Num{7, 6}, Num{14, 11}, api.OK, Num{}, api.ErrWide, -1},
		{Num{7, 6}, Num{8, 5}, Num{15, 11}, api.OK, Num{}, api.ErrWide, -1},
		{Num{full, full}, Num{full, full}, Num{}, api.ErrWide, Num{}, api.OK, 0},
	} {
		if got, e := c.x.Add(c.y); got != c.both || e != c.e {
			t.Errorf("%d and %d: %d, %d", c.x, c.y, got, e)
		}
		if got, e := c.y.Add(c.x); got != c.both || e != c.e {
			t.Errorf("%d and %d: %d, %d", c.y, c.x, got, e)
		}
		if got, e := c.x.Sub(c.y); got != c.less || e != c.f {
			t.Errorf("%d less %d: %d, %d", c.x, c.y, got, e)
		}
		if got := c.x.Cmp(c.y); got != c.cmp {
			t.Errorf("%d against %d: %d", c.x, c.y, got)
		}
		if got := c.y.Cmp(c.x); got != -c.cmp {
			t.Errorf("%d against %d: %d", c.y, c.x, got)
		}
	}
}

// P10.2: the floor, and what is left; ErrWide and zeros of nothing to divide by.
func TestDiv(t *testing.T) {
	dice := rand.New(rand.NewSource(3))
	hold := func(x wide.Num, d uint64) {
		t.Helper()
		got, left, e := x.Div(d)
		if d == 0 {
			if (got != wide.Num{}) || left != 0 || e != api.ErrWide {
				t.Fatalf("%d / 0: %d, %d, %d", x, got, left, e)
			}
			return
		}
		q, r := floor(whole(x), num(d))
		if whole(got).Cmp(q) != 0 || num(left).Cmp(r) != 0 || e != api.OK {
			t.Fatalf("%d / %d: %d, %d, %d", x, d, got, left, e)
		}
	}
	for _, x := range wides() {
		for _, d := range ends() {
			hold(x, d)
		}
		hold(x, x.Hi)
		hold(x, x.Lo)
	}
	for range 20000 {
		x, d := anyWide(dice), any64(dice)
		hold(x, d)
		hold(x, x.Hi)
		hold(x, x.Hi+1)
		hold(wide.Mul(x.Hi, d), d)
	}
}

// holdMulDiv holds MulDiv and Ceil against the chapter's words.
func holdMulDiv(t *testing.T, a, b, d uint64) {
	t.Helper()
	n, left, e := wide.MulDiv(a, b, d)
	if m, r, f := mulDiv(a, b, d); n != m || left != r || e != f {
		t.Fatalf("MulDiv(%d, %d, %d): %d, %d, %d, not %d, %d, %d", a, b, d, n, left, e, m, r, f)
	}
	up, e := wide.Ceil(a, b, d)
	if m, f := ceil(a, b, d); up != m || e != f {
		t.Fatalf("Ceil(%d, %d, %d): %d, %d, not %d, %d", a, b, d, up, e, m, f)
	}
}

// P10.2: the floor of a product's quotient, and the least whole number that isn't below it.
func TestMulDiv(t *testing.T) {
	dice := rand.New(rand.NewSource(4))
	for _, a := range ends() {
		for _, b := range ends() {
			for _, d := range ends() {
				holdMulDiv(t, a, b, d)
			}
		}
	}
	for a := range uint64(20) {
		for b := range uint64(20) {
			for d := range uint64(30) {
				holdMulDiv(t, a, b, d)
			}
		}
	}
	for range 20000 {
		a, b := any64(dice), any64(dice)
		holdMulDiv(t, a, b, any64(dice))
		// About the least d by which the floor has room, which is one more than the product's higher half.
		hi := wide.Mul(a, b).Hi
		holdMulDiv(t, a, b, hi)
		holdMulDiv(t, a, b, hi+1)
	}
}

// P10.2: the edges: a quotient of 2^64 less 1, between that and 2^64, and of 2^64; nothing to divide by.
func TestMulDivEdges(t *testing.T) {
	for _, c := range []struct {
		a, b, d, n, left uint64
		e                api.Errno
		up               uint64
		f                api.Errno
	}{
		{0, 0, 1, 0, 0, api.OK, 0, api.OK},
		{0, full, full, 0, 0, api.OK, 0, api.OK},
		{1, 1, full, 0, 1, api.OK, 1, api.OK},
		{6, 1, 2, 3, 0, api.OK, 3, api.OK},
		{7, 1, 2, 3, 1, api.OK, 4, api.OK},
		{full, 1, 1, full, 0, api.OK, full, api.OK},
		{full, full, full, full, 0, api.OK, full, api.OK},
		{641 * 6700417, 1<<32 - 1, 1, full, 0, api.OK, full, api.OK},
		{1 << 63, 1<<63 + 1, 1<<62 + 1, full - 1, 2, api.OK, full, api.OK},
		{full - 1, full - 1, full - 2, full, 1, api.OK, 0, api.ErrWide},
		{1<<63 + 1, 1<<63 - 1, 1 << 62, full, 1<<62 - 1, api.OK, 0, api.ErrWide},
		{1 << 32, 1 << 32, 1, 0, 0, api.ErrWide, 0, api.ErrWide},
		{1 << 63, 4, 2, 0, 0, api.ErrWide, 0, api.ErrWide},
		{full, full - 1, full - 2, 0, 0, api.ErrWide, 0, api.ErrWide},
		{274177, 67280421310721, 1, 0, 0, api.ErrWide, 0, api.ErrWide}, // 2^64 and 1
		{full, full, 1, 0, 0, api.ErrWide, 0, api.ErrWide},
		{0, 0, 0, 0, 0, api.ErrWide, 0, api.ErrWide},
		{5, 7, 0, 0, 0, api.ErrWide, 0, api.ErrWide},
		{full, full, 0, 0, 0, api.ErrWide, 0, api.ErrWide},
	} {
		if n, left, e := wide.MulDiv(c.a, c.b, c.d); n != c.n || left != c.left || e != c.e {
			t.Errorf("MulDiv(%d, %d, %d): %d, %d, %d", c.a, c.b, c.d, n, left, e)
		}
		if n, e := wide.Ceil(c.a, c.b, c.d); n != c.up || e != c.f {
			t.Errorf("Ceil(%d, %d, %d): %d, %d", c.a, c.b, c.d, n, e)
		}
	}
}
