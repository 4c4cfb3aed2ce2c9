package rank_test

import (
	"math/rand"
	"testing"

	"theodolite/api"
	"theodolite/rank"
)

// holdPart holds Check and Least against the chapter's words.
func holdPart(t *testing.T, num, den uint64) {
	t.Helper()
	if e, want := rank.Check(num, den), check(num, den); e != want {
		t.Fatalf("Check(%d, %d): %d, not %d", num, den, e, want)
	}
	n, d := rank.Least(num, den)
	if m, c := least(num, den); n != m || d != c {
		t.Fatalf("Least(%d, %d): %d, %d, not %d, %d", num, den, n, d, m, c)
	}
}

// P11.1: which parts may be, and their least numbers.
func TestCheckAndLeast(t *testing.T) {
	for num := range uint64(60) {
		for den := range uint64(60) {
			holdPart(t, num, den)
		}
	}
	for _, num := range ends() {
		for _, den := range ends() {
			holdPart(t, num, den)
		}
	}
	dice := rand.New(rand.NewSource(4))
	for range 20000 {
		holdPart(t, any64(dice), any64(dice))
		num, den := anyPart(dice)
		holdPart(t, num, den)
		n := uint64(dice.Intn(1<<20)) + 1
		holdPart(t, num>>20*n, den>>20*n)
	}
}

// P11.1: parts that may be just so, and those that may not be just so.
func TestCheckAndLeastEdges(t *testing.T) {
	for _, c := range []struct {
		num, den uint64
		e        api.Errno
		n, d     uint64
	}{
		{0, 0, api.ErrQuant, 0, 0},
		{1, 0, api.ErrQuant, 0, 0},
		{full, 0, api.ErrQuant, 0, 0},
		{2, 1, api.ErrQuant, 0, 0},
		{full, full - 1, api.ErrQuant, 0, 0},
		{full, 1, api.ErrQuant, 0, 0},
		{0, 1, api.OK, 0, 1},
		{0, 7, api.OK, 0, 1},
		{0, full, api.OK, 0, 1},
		{1, 1, api.OK, 1, 1},
		{full, full, api.OK, 1, 1},
		{1, full, api.OK, 1, full},
		{full - 1, full, api.OK, full - 1, full},
		{1 << 62, 1 << 63, api.OK, 1, 2},
		{full / 5, full, api.OK, 1, 5},
		{6, 8, api.OK, 3, 4},
		{12200160415121876738, 12200160415121876739, api.OK, 12200160415121876738, 12200160415121876739},
		{7540113804746346429, 12200160415121876738, api.OK, 7540113804746346429, 12200160415121876738}, // neighbours of Fibonacci's: the most steps
	} {
		if e := rank.Check(c.num, c.den); e != c.e {
			t.Errorf("Check(%d, %d): %d", c.num, c.den, e)
		}
		if n, d := rank.Least(c.num, c.den); n != c.n || d != c.d {
			t.Errorf("Least(%d, %d): %d, %d", c.num, c.den, n, d)
		}
	}
}

// P11.1: how parts are held against each other, also such as may not be.
func TestCmp(t *testing.T) {
	hold := func(a, b, c, d uint64) {
		t.Helper()
		got := rank.Cmp(a, b, c, d)
		if want := order(a, b, c, d); got != want {
			t.Fatalf("Cmp(%d, %d, %d, %d): %d, not %d", a, b, c, d, got, want)
		}
		if back := rank.Cmp(c, d, a, b); back != -got {
			t.Fatalf("Cmp(%d, %d, %d, %d): %d, and %d the other way round", a, b, c, d, got, back)
		}
	}
	for _, a := range ends() {
		for _, b := range ends() {
			for _, c := range ends() {
				for _, d := range ends() {
					hold(a, b, c, d)
				}
			}
		}
	}
	dice := rand.New(rand.NewSource(5))
	for range 20000 {
		a, b := anyPart(dice)
		c, d := anyPart(dice)
		hold(a, b, c, d)
		hold(any64(dice), any64(dice), any64(dice), any64(dice))
		n := uint64(dice.Intn(1<<20)) + 1
		a, b = a>>20, b>>20
		hold(a, b, a*n, b*n)
	}
}

// P11.1: parts that are nearly the same, and the same by other numbers; what is divided by 0.
func TestCmpEdges(t *testing.T) {
	for _, c := range []struct {
		a, b, c, d uint64
		want       int
	}{
		{1, 2, 2, 4, 0},
		{1, 2, 2, 3, -1},
		{2, 3, 1, 2, 1},
		{0, 1, 0, full, 0},
		{1, 1, full, full, 0},
		{full - 2, full - 1, full - 1, full, -1},
		{full - 1, full, full - 2, full - 1, 1},
		{1, full, 1, full - 1, -1},
		{1, full - 1, 1, full, 1},
		{0, 1, 1, full, -1},
		{3, 2, 1, 1, 1},
		{1, 1, full, 1, -1},
		{1, 0, 1, 2, 0},
		{1, 2, 1, 0, 0},
		{1, 0, 0, 0, 0},
		{0, 0, 1, 2, 0},
		{0, 1, 1, 0, 0},
	} {
		if got := rank.Cmp(c.a, c.b, c.c, c.d); got != c.want {
			t.Errorf("Cmp(%d, %d, %d, %d): %d", c.a, c.b, c.c, c.d, got)
		}
	}
}
