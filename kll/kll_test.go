package kll_test

import (
	"math"
	"math/rand"
	"slices"
	"testing"

	"theodolite/api"
	"theodolite/kll"
)

// few are what no stack packs.
var few = []item{{40, 2}, {-10, 1}, {20, 3}}

// P24.3, P24.5, P24.6, P24.9: the chapter's examples.
func TestExamples(t *testing.T) {
	s, c := empty(t, 8), kll.NewCoins([]byte{1})
	for v := range int64(9) {
		wantAdd(t, s, v+1, 1, c, api.OK)
	}
	wantLevels(t, s, 1, []int64{9}, []int64{2, 4, 6, 8})
	if v, e, err := s.At(1, 2); v != 6 || e != 1 || err != api.OK {
		t.Errorf("At(1, 2): %d, %d, %d", v, e, err)
	}
	if v, e := s.Mean(); v != 5 || e != api.OK {
		t.Errorf("Mean: %d, %d", v, e)
	}
	if c.Left() != 7 {
		t.Errorf("%d coins are left", c.Left())
	}
}

// wantLevels holds the levels and the ledger of a stack against what is wanted.
func wantLevels(t *testing.T, s *kll.Stack, ledger uint64, want ...[]int64) {
	t.Helper()
	if l, e := s.Levels(), s.Ledger(); !slices.EqualFunc(l, want, slices.Equal) || e != ledger {
		t.Fatalf("Levels: %d, Ledger: %d, not %d, %d", l, e, want, ledger)
	}
}

// P24.2: each size that may be has a stack, which tells it, and has no levels.
func TestNew(t *testing.T) {
	for k := 8; k <= 4096; k++ {
		s := empty(t, k)
		if s.Size() != k || s.Total() != 0 || s.Kept() != 0 {
			t.Fatalf("New(%d): Size: %d, Total: %d, Kept: %d", k, s.Size(), s.Total(), s.Kept())
		}
		wantLevels(t, s, 0)
		for _, h := range []int{-1, 0, 1, 48, 49, math.MinInt, math.MaxInt} {
			if n := s.Room(h); n != 0 {
				t.Fatalf("New(%d): Room(%d): %d", k, h, n)
			}
		}
	}
	for _, k := range []int{8, 9, 4096} {
		holdAll(t, empty(t, k), &model{k: k})
	}
}

// P24.2, P24.7: a size that may not be has no stack.
func TestNewRefuses(t *testing.T) {
	for _, k := range []int{7, 4097, 0, 1, 2, -1, -8, -4096, 1 << 32, 1<<32 + 8, math.MinInt, math.MaxInt, math.MinInt + 8} {
		if s, e := kll.New(k); s != nil || e != api.ErrArg {
			t.Errorf("New(%d): %v, %d", k, s, e)
		}
		if s, e := kll.Load(k, nil, 0); s != nil || e != api.ErrArg {
			t.Errorf("Load(%d): %v, %d", k, s, e)
		}
		if s, e := kll.Load(k, [][]int64{{5}}, 0); s != nil || e != api.ErrArg {
			t.Errorf("Load(%d) of a value: %v, %d", k, s, e)
		}
	}
}

// P24.3: a value comes to each level whose bit its weight has, and no other.
func TestAddBits(t *testing.T) {
	s := empty(t, 8)
	wantAdd(t, s, 7, 6, nil, api.OK)
	wantLevels(t, s, 0, nil, []int64{7}, []int64{7})
	wantAdd(t, s, -7, 1, nil, api.OK)
	wantAdd(t, s, 9, 2, nil, api.OK)
	wantAdd(t, s, -9, 3, nil, api.OK)
	wantLevels(t, s, 0, []int64{-9, -7}, []int64{-9, 7, 9}, []int64{7})
	dice := rand.New(rand.NewSource(242))
	for h := range 49 {
		for _, n := range []uint64{1 << h, 1<<h - 1, 1<<h | 1, full - 1<<h, dice.Uint64()>>(63-h) | 1<<h} {
			if n == 0 || n > full {
				continue
			}
			s, w := made(t, 8, item{5, n})
			for i, l := range s.Levels() {
				if len(l) != int(n>>i&1) || n>>i == 0 {
					t.Fatalf("Add(5, %d): Levels: %d", n, s.Levels())
				}
			}
			holdAll(t, s, w)
		}
	}
}

// P24.3: values stand by size, however they came, alike ones and those farthest from 0 too.
func TestAddOrder(t *testing.T) {
	for _, l := range [][]int64{
		{5, 3, 9, 3, 5, 1, 5}, {1, 2, 3, 4, 5, 6, 7, 8}, {8, 7, 6, 5, 4, 3, 2, 1}, {0, 0, 0, 0},
		{highest, lowest, 0, -1, highest, lowest, 1}, {lowest, highest, lowest + 1, highest - 1},
	} {
		s := empty(t, 8)
		for _, v := range l {
			wantAdd(t, s, v, 1, nil, api.OK)
		}
		wantLevels(t, s, 0, slices.Sorted(slices.Values(l)))
	}
}

// P24.3: which error Add tells, where both apply; what is refused changes nothing, and no coin is tossed.
func TestAddRefuses(t *testing.T) {
	for _, c := range []struct {
		all  []item
		n    uint64
		want api.Errno
	}{
		{nil, 0, api.ErrWeight},
		{few, 0, api.ErrWeight},
		{[]item{{5, full}}, 0, api.ErrWeight},
		{nil, full + 1, api.ErrCap},
		{nil, 1 << 49, api.ErrCap},
		{nil, 1 << 63, api.ErrCap},
		{nil, math.MaxUint64, api.ErrCap},
		{few, full - 5, api.ErrCap},
		{few, full, api.ErrCap},
		{few, math.MaxUint64, api.ErrCap},
		{few, math.MaxUint64 - 5, api.ErrCap},
		{few, math.MaxUint64 - 6, api.ErrCap},
		{[]item{{5, full}}, 1, api.ErrCap},
		{[]item{{5, full}}, math.MaxUint64, api.ErrCap},
		{[]item{{5, full - 1}}, 2, api.ErrCap},
		{ones(1, 1, 8), full - 7, api.ErrCap},
	} {
		for _, v := range []int64{0, 7, -1000, 1000, lowest, highest} {
			s, w := made(t, 8, c.all...)
			coins := kll.NewCoins([]byte{255})
			wantAdd(t, s, v, c.n, coins, c.want)
			hold(t, s, w)
			wantCoins(t, coins, bitsOf([]byte{255}))
		}
	}
}

// P24.3: the greatest totals, come to in some ways, by values farthest from 0.
func TestAddEdges(t *testing.T) {
	for _, all := range [][]item{
		{{0, full}},
		{{highest, full}},
		{{lowest, full}},
		{{lowest, 1}, {highest, full - 1}},
		{{lowest, full - 1}, {highest, 1}},
		{{highest, full / 2}, {lowest, full / 2}},
		{{highest, 1}, {lowest, 1}},
		{{lowest, 1}, {0, full - 2}, {highest, 1}},
		append(ones(1, 1, 8), item{highest, full - 8}),
		append(ones(1, 1, 100), item{lowest, full - 100}),
		append([]item{{highest, full - 100}}, ones(1, 1, 100)...),
	} {
		for _, k := range []int{8, 9, 4096} {
			s, w := made(t, k, all...)
			holdAll(t, s, w)
			holdAll(t, loaded(t, w), w)
			if s.Total() == full {
				wantAdd(t, s, 0, 1, nil, api.ErrCap)
				hold(t, s, w)
			}
		}
	}
}

// P24.3: many values of great weights, up to the greatest total just so.
func TestGreatWeights(t *testing.T) {
	dice := rand.New(rand.NewSource(243))
	for _, k := range []int{8, 33} {
		s, w := empty(t, k), &model{k: k}
		for range 1000 {
			v, n := anyValue(dice), uint64(full/1000)-dice.Uint64()>>(30+dice.Intn(30))
			c, l := anyCoins(dice)
			wantAdd(t, s, v, n, c, w.add(v, n, l))
			wantCoins(t, c, *l)
		}
		hold(t, s, w)
		rest := full - s.Total()
		wantAdd(t, s, 0, rest+1, nil, api.ErrCap)
		wantAdd(t, s, 0, rest, nil, w.add(0, rest, &tosses{}))
		wantAdd(t, s, 0, 1, nil, api.ErrCap)
		holdAll(t, s, w)
	}
}

// P24.4: which error Take tells, where several apply; what is refused changes neither stack, and no coin is tossed.
func TestTakeRefuses(t *testing.T) {
	for _, c := range []struct {
		k    int
		all  []item
		want api.Errno
	}{
		{9, nil, api.ErrKind},
		{4096, nil, api.ErrKind},
		{9, few, api.ErrKind},
		{9, []item{{5, full}}, api.ErrKind},
		{8, []item{{5, full}}, api.ErrCap},
		{8, []item{{500, full - 5}}, api.ErrCap},
		{8, []item{{-500, full - 6}, {500, 1}}, api.ErrCap},
	} {
		s, w := made(t, 8, few...)
		o, u := made(t, c.k, c.all...)
		coins := kll.NewCoins([]byte{255})
		wantTake(t, s, o, coins, c.want)
		wantTake(t, o, s, coins, c.want)
		wantTake(t, s, nil, coins, api.ErrArg)
		wantTake(t, o, nil, coins, api.ErrArg)
		hold(t, s, w)
		hold(t, o, u)
		wantCoins(t, coins, bitsOf([]byte{255}))
	}
}

// P24.4: the greatest total, met just so; then nothing more is taken, but from an empty one.
func TestTakeFull(t *testing.T) {
	s, w := made(t, 8, few...)
	o, u := made(t, 8, item{-500, full - 6})
	wantTake(t, s, o, nil, w.take(u, &tosses{}))
	holdAll(t, s, w)
	wantTake(t, s, s, nil, api.ErrCap)
	wantTake(t, s, o, nil, api.ErrCap)
	wantTake(t, s, empty(t, 8), nil, api.OK)
	holdAll(t, s, w)
	hold(t, o, u)
	s, w = made(t, 8, item{7, full / 2})
	wantTake(t, s, s, nil, w.take(w, &tosses{}))
	wantLevels(t, s, 0, append(make([][]int64, 47), []int64{7, 7})...)
	wantTake(t, s, s, nil, api.ErrCap)
	holdAll(t, s, w)
}

// P24.4: a stack that has nothing gives nothing.
func TestTakeNothing(t *testing.T) {
	s, w := made(t, 8, few...)
	c := kll.NewCoins([]byte{1})
	wantTake(t, s, empty(t, 8), c, api.OK)
	hold(t, s, w)
	o := empty(t, 8)
	wantTake(t, o, o, c, api.OK)
	wantTake(t, o, empty(t, 8), c, api.OK)
	hold(t, o, &model{k: 8})
	wantTake(t, o, s, c, api.OK)
	hold(t, o, w)
	hold(t, s, w)
	wantCoins(t, c, bitsOf([]byte{1}))
}

// P24.4: values come to the same levels, with or without such here; what is taken stays as it is.
func TestTakeLevels(t *testing.T) {
	low := &model{8, [][]int64{{1, 5, 9}}, 0}
	high := &model{8, [][]int64{{5, 6}, {}, {-3, 7}}, 9}
	want := [][]int64{{1, 5, 5, 6, 9}, {}, {-3, 7}}
	s, o := loaded(t, low), loaded(t, high)
	wantTake(t, s, o, nil, api.OK) // three levels have room for 4, 6 and 8: those at the level 0 are packed
	wantLevels(t, s, 10, []int64{9}, []int64{1, 5}, []int64{-3, 7})
	hold(t, o, high)
	s = loaded(t, &model{12, low.levels, 0})
	o = loaded(t, &model{12, high.levels, 9})
	wantTake(t, s, o, nil, api.OK)
	wantLevels(t, s, 9, want...)
	s = loaded(t, &model{12, low.levels, 4})
	wantTake(t, o, s, nil, api.OK)
	wantLevels(t, o, 13, want...)
	wantLevels(t, s, 4, low.levels...)
}

// P24.4: a stack takes itself.
func TestTakeItself(t *testing.T) {
	s := loaded(t, &model{12, [][]int64{{1, 3}, {2}, {2, 4, 4}}, 5})
	wantTake(t, s, s, nil, api.OK)
	wantLevels(t, s, 10, []int64{1, 1, 3, 3}, []int64{2, 2}, []int64{2, 2, 4, 4, 4, 4})
	if n := s.Total(); n != 32 {
		t.Errorf("Total: %d", n)
	}
	dice := rand.New(rand.NewSource(244))
	for range 200 {
		s, w := anyStack(t, dice, anySize(dice), 60)
		for range 5 {
			c, l := anyCoins(dice)
			wantTake(t, s, s, c, w.take(w.copied(), l))
			wantCoins(t, c, *l)
			hold(t, s, w)
		}
	}
}

// P24.3, P24.4: a ledger of 2^62 stays so.
func TestLedgerEnds(t *testing.T) {
	for _, c := range []struct{ here, there, want uint64 }{
		{0, deepest, deepest}, {deepest, 0, deepest}, {deepest, deepest, deepest}, {deepest, 1, deepest}, {1, deepest, deepest},
		{deepest - 1, 1, deepest}, {deepest - 1, 2, deepest}, {deepest - 2, 1, deepest - 1}, {1 << 61, 1 << 61, deepest}, {1 << 61, 1<<61 - 1, deepest - 1}, {deepest - 1, deepest - 1, deepest},
	} {
		s, o := loaded(t, &model{8, [][]int64{{1}}, c.here}), loaded(t, &model{8, [][]int64{{2}}, c.there})
		wantTake(t, s, o, nil, api.OK)
		wantLevels(t, s, c.want, []int64{1, 2})
	}
	for _, c := range []struct{ was, want uint64 }{
		{deepest, deepest}, {deepest - 1, deepest}, {deepest - 2, deepest}, {deepest - 3, deepest}, {deepest - 4, deepest - 1}, {deepest - 8, deepest - 5},
	} {
		s := loaded(t, &model{8, [][]int64{row(1, 1, 6), row(10, 1, 8)}, c.was})
		wantAdd(t, s, 18, 2, nil, api.OK) // E is 2 more, and 1 more
		wantLevels(t, s, c.want, nil, []int64{1, 3, 5, 18}, []int64{10, 12, 14, 16})
	}
}

// P24.2 to P24.7, P24.9: any acts on any stacks, which may be taken by each other and by themselves.
func TestAnyActs(t *testing.T) {
	dice := rand.New(rand.NewSource(245))
	for range 100 {
		k := anySize(dice)
		var s [3]*kll.Stack
		var w [3]*model
		for i := range s {
			w[i] = anyModel(dice, k, 20)
			s[i] = loaded(t, w[i])
		}
		for range 60 {
			i, j := dice.Intn(3), dice.Intn(3)
			c, l := anyCoins(dice)
			switch dice.Intn(16) {
			case 0, 1:
				wantTake(t, s[i], s[j], c, w[i].take(w[j].copied(), l))
			case 2:
				s[i] = loaded(t, w[i])
			case 3:
				s[i], w[i] = empty(t, k), &model{k: k}
			case 4:
				v, n := anyValue(dice), dice.Uint64()>>dice.Intn(64)
				wantAdd(t, s[i], v, n, c, w[i].add(v, n, l))
			default:
				v, n := anyValue(dice), uint64(dice.Intn(6))
				wantAdd(t, s[i], v, n, c, w[i].add(v, n, l))
			}
			wantCoins(t, c, *l)
			for k := range s {
				hold(t, s[k], w[k])
			}
			holdAt(t, s[i], w[i], dice.Uint64()>>dice.Intn(64), dice.Uint64()>>dice.Intn(64))
			holdBetween(t, s[i], w[i], anyValue(dice))
		}
		for k := range s {
			holdAll(t, s[k], w[k])
		}
	}
}
