package rank_test

import (
	"math/rand"
	"slices"
	"testing"

	"theodolite/api"
	"theodolite/rank"
)

// P11.1 to P11.4: the chapter's examples.
func TestExamples(t *testing.T) {
	for _, c := range []struct{ num, den, n, want uint64 }{{1, 2, 5, 3}, {1, 2, 4, 2}, {0, 1, 4, 1}, {1, 1, 4, 4}} {
		if at, e := rank.Rank(c.num, c.den, c.n); at != c.want || e != api.OK {
			t.Errorf("Rank(%d, %d, %d): %d, %d", c.num, c.den, c.n, at, e)
		}
	}
	if at, e := rank.Spot(1, 2, 5); at != 5 || e != api.OK {
		t.Errorf("Spot: %d, %d", at, e)
	}
	if n, den := rank.Least(6, 8); n != 3 || den != 4 {
		t.Errorf("Least: %d, %d", n, den)
	}
	if n, e := rank.Power(3); n != 1000 || e != api.OK {
		t.Errorf("Power: %d, %d", n, e)
	}
	if l, e := rank.Cut(10, 4); !slices.Equal(l, []uint64{3, 5, 8}) || e != api.OK {
		t.Errorf("Cut: %d, %d", l, e)
	}
}

// hold holds Rank and Spot of a part of n things against the chapter's words.
func hold(t *testing.T, num, den, n uint64) {
	t.Helper()
	at, e := rank.Rank(num, den, n)
	if want, f := rankOf(num, den, n); at != want || e != f {
		t.Fatalf("Rank(%d, %d, %d): %d, %d, not %d, %d", num, den, n, at, e, want, f)
	}
	// P11.5
	if e == api.OK && (at < 1 || at > n || num == 0 && at != 1 || num == den && at != n) {
		t.Fatalf("Rank(%d, %d, %d): %d", num, den, n, at)
	}
	at, e = rank.Spot(num, den, n)
	if want, f := spotOf(num, den, n); at != want || e != f {
		t.Fatalf("Spot(%d, %d, %d): %d, %d, not %d, %d", num, den, n, at, e, want, f)
	}
	if e == api.OK && (at > 2*n || num == 0 && at != 0 || num == den && at != 2*n) {
		t.Fatalf("Spot(%d, %d, %d): %d", num, den, n, at)
	}
}

// P11.2, P11.5: ranks and spots of all parts of few things, of numbers at which something turns, and of any.
func TestRankAndSpot(t *testing.T) {
	for n := range uint64(25) {
		for den := range uint64(25) {
			for num := range den + 2 {
				hold(t, num, den, n)
			}
		}
	}
	for _, num := range ends() {
		for _, den := range ends() {
			for _, n := range ends() {
				hold(t, num, den, n)
			}
		}
	}
	dice := rand.New(rand.NewSource(1))
	for range 20000 {
		num, den := anyPart(dice)
		hold(t, num, den, any64(dice))
		hold(t, any64(dice), any64(dice), any64(dice))
		hold(t, num, den, den)
	}
}

// P11.2: which error is told, where several apply; the greatest numbers of things.
func TestRankAndSpotEdges(t *testing.T) {
	for _, c := range []struct {
		num, den, n, rank uint64
		rankError         api.Errno
		spot              uint64
		spotError         api.Errno
	}{
		{0, 0, 5, 0, api.ErrQuant, 0, api.ErrQuant},
		{1, 0, 5, 0, api.ErrQuant, 0, api.ErrQuant},
		{2, 1, 5, 0, api.ErrQuant, 0, api.ErrQuant},
		{0, 0, 0, 0, api.ErrQuant, 0, api.ErrQuant},
		{2, 1, 0, 0, api.ErrQuant, 0, api.ErrQuant},
		{full, full - 1, full, 0, api.ErrQuant, 0, api.ErrQuant},
		{2, 1, 1<<62 + 1, 0, api.ErrQuant, 0, api.ErrQuant},
		{0, 1, 0, 0, api.ErrEmpty, 0, api.ErrEmpty},
		{1, 1, 0, 0, api.ErrEmpty, 0, api.ErrEmpty},
		{1, 2, 0, 0, api.ErrEmpty, 0, api.ErrEmpty},
		{0, 1, 1, 1, api.OK, 0, api.OK},
		{1, 1, 1, 1, api.OK, 2, api.OK},
		{1, 2, 1, 1, api.OK, 1, api.OK},
		{0, 5, 7, 1, api.OK, 0, api.OK},
		{1, full, 7, 1, api.OK, 0, api.OK},
		{full - 1, full, 7, 7, api.OK, 13, api.OK},
		{1, 1, 1 << 62, 1 << 62, api.OK, 1 << 63, api.OK},
		{1, 2, 1 << 62, 1 << 61, api.OK, 1 << 62, api.OK},
		{full, full, 1 << 62, 1 << 62, api.OK, 1 << 63, api.OK},
		{1, 1, 1<<62 + 1, 1<<62 + 1, api.OK, 0, api.ErrCap},
		{0, 1, 1<<62 + 1, 1, api.OK, 0, api.ErrCap},
		{1, 2, full, 1 << 63, api.OK, 0, api.ErrCap},
		{full, full, full, full, api.OK, 0, api.ErrCap},
		{full - 1, full, full, full - 1, api.OK, 0, api.ErrCap},
	} {
		if at, e := rank.Rank(c.num, c.den, c.n); at != c.rank || e != c.rankError {
			t.Errorf("Rank(%d, %d, %d): %d, %d", c.num, c.den, c.n, at, e)
		}
		if at, e := rank.Spot(c.num, c.den, c.n); at != c.spot || e != c.spotError {
			t.Errorf("Spot(%d, %d, %d): %d, %d", c.num, c.den, c.n, at, e)
		}
	}
}

// P11.5: a greater part has no lesser rank, and no lesser spot.
func TestRises(t *testing.T) {
	dice := rand.New(rand.NewSource(2))
	type fraction struct{ num, den uint64 }
	for range 300 {
		l := []fraction{{0, 1}, {1, 1}}
		for range 30 {
			num, den := anyPart(dice)
			l = append(l, fraction{num, den}, fraction{uint64(dice.Intn(10)), 10})
		}
		slices.SortFunc(l, func(x, y fraction) int { return order(x.num, x.den, y.num, y.den) })
		n := any64(dice)%(1<<62) + 1
		var rankWas, spotWas uint64
		for _, p := range l {
			at, e := rank.Rank(p.num, p.den, n)
			if at < rankWas || e != api.OK {
				t.Fatalf("Rank(%d, %d, %d): %d, %d behind %d", p.num, p.den, n, at, e, rankWas)
			}
			spot, e := rank.Spot(p.num, p.den, n)
			if spot < spotWas || e != api.OK {
				t.Fatalf("Spot(%d, %d, %d): %d, %d behind %d", p.num, p.den, n, spot, e, spotWas)
			}
			rankWas, spotWas = at, spot
		}
	}
}

// P11.4: few things, and any, cut into any number of parts.
func TestCut(t *testing.T) {
	dice := rand.New(rand.NewSource(3))
	holdCut := func(n uint64, k int) {
		t.Helper()
		l, e := rank.Cut(n, k)
		if want, f := cut(n, k); !slices.Equal(l, want) || e != f {
			t.Fatalf("Cut(%d, %d): %d, %d, not %d, %d", n, k, l, e, want, f)
		}
		for i, at := range l {
			if as, e := rank.Rank(uint64(i+1), uint64(k), n); at != as || e != api.OK {
				t.Fatalf("Cut(%d, %d): %d, and Rank is %d, %d", n, k, l, as, e)
			}
		}
	}
	for n := range uint64(20) {
		for k := -2; k < 30; k++ {
			holdCut(n, k)
		}
	}
	for _, n := range ends() {
		for _, k := range []int{1, 2, 3, 999, 1000} {
			holdCut(n, k)
		}
	}
	for range 100 {
		holdCut(any64(dice), 1+dice.Intn(1000))
	}
}

// P11.4: into how many parts may be cut, and what is told of no things.
func TestCutEdges(t *testing.T) {
	for _, c := range []struct {
		n    uint64
		k    int
		many int
		e    api.Errno
	}{
		{5, 0, 0, api.ErrArg},
		{5, -1, 0, api.ErrArg},
		{5, -1 << 63, 0, api.ErrArg},
		{5, 1001, 0, api.ErrArg},
		{5, 1<<63 - 1, 0, api.ErrArg},
		{0, 0, 0, api.ErrArg},
		{0, 1001, 0, api.ErrArg},
		{0, 1, 0, api.ErrEmpty},
		{0, 1000, 0, api.ErrEmpty},
		{5, 1, 0, api.OK},
		{5, 2, 1, api.OK},
		{5, 1000, 999, api.OK},
		{full, 1000, 999, api.OK},
	} {
		l, e := rank.Cut(c.n, c.k)
		if len(l) != c.many || e != c.e {
			t.Errorf("Cut(%d, %d): %d, %d", c.n, c.k, l, e)
		}
	}
	if l, _ := rank.Cut(3, 7); !slices.Equal(l, []uint64{1, 1, 2, 2, 3, 3}) {
		t.Errorf("Cut(3, 7): %d", l)
	}
	if l, _ := rank.Cut(full, 2); !slices.Equal(l, []uint64{1 << 63}) {
		t.Errorf("Cut(2^64 - 1, 2): %d", l)
	}
}

// The rules that hold everywhere: an answer is new memory, and always the same.
func TestAnswers(t *testing.T) {
	l, _ := rank.Cut(100, 10)
	again, _ := rank.Cut(100, 10)
	if !slices.Equal(l, again) {
		t.Fatalf("Cut: %d, and then %d", l, again)
	}
	was := slices.Clone(l)
	clear(again[:cap(again)])
	if !slices.Equal(l, was) {
		t.Errorf("answers share memory: %d", l)
	}
	if l, _ := rank.Cut(100, 10); !slices.Equal(l, was) {
		t.Errorf("an answer is kept: %d", l)
	}
}
