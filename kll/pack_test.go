package kll_test

import (
	"math/rand"
	"slices"
	"testing"

	"theodolite/api"
	"theodolite/kll"
)

// P24.2: the rooms of each level of stacks with so many levels.
func TestRoom(t *testing.T) {
	for _, c := range []struct {
		k    int
		want []int // from the highest level on
	}{
		{8, []int{8, 6, 4, 3, 2, 2, 2, 2}},
		{9, []int{9, 6, 4, 3, 2, 2}},
		{10, []int{10, 7, 5, 4, 3, 2, 2}},
		{11, []int{11, 8, 6, 4, 3, 2, 2}},
		{12, []int{12, 8, 6, 4, 3, 2}},
		{100, []int{100, 67, 45, 30, 20, 14, 10, 7, 5, 4, 3, 2, 2}},
		{4096, []int{4096, 2731, 1821, 1214, 810, 540, 360, 240, 160, 107, 72, 48, 32, 22, 15, 10, 7, 5, 4, 3, 2, 2, 2}},
	} {
		for many := 1; many <= 49; many++ {
			s := empty(t, c.k)
			wantAdd(t, s, 5, 1<<(many-1), nil, api.OK)
			for h := range many {
				want := 2
				if above := many - 1 - h; above < len(c.want) {
					want = c.want[above]
				}
				if n := s.Room(h); n != want {
					t.Errorf("%d: Room(%d) of %d levels: %d, not %d", c.k, h, many, n, want)
				}
			}
			if a, b := s.Room(-1), s.Room(many); a != 0 || b != 0 {
				t.Errorf("%d: Room(-1): %d, Room(%d): %d", c.k, a, many, b)
			}
		}
	}
}

// P24.2: rooms of all sizes that may be.
func TestRooms(t *testing.T) {
	for k := 8; k <= 4096; k += 1 + k/50 {
		s, w := made(t, k, item{5, 1 << 30})
		for h := range 31 {
			if n := s.Room(h); n != w.room(h) {
				t.Fatalf("%d: Room(%d): %d, not %d", k, h, n, w.room(h))
			}
		}
	}
}

// P24.3: nothing is packed as long as there is room, and no coin is tossed; the next one packs.
func TestRoomIsLeft(t *testing.T) {
	for _, k := range []int{8, 9, 10, 100, 4095, 4096} {
		s, c := empty(t, k), kll.NewCoins([]byte{3})
		for i := range k {
			wantAdd(t, s, int64(i), 1, c, api.OK)
		}
		wantLevels(t, s, 0, row(0, 1, k))
		wantCoins(t, c, bitsOf([]byte{3}))
		wantAdd(t, s, int64(k), 1, c, api.OK)
		even := (k + 1) / 2
		wantLevels(t, s, 1, row(int64(2*even), 1, k+1-2*even), row(1, 2, even))
		wantCoins(t, c, bitsOf([]byte{3})[1:])
	}
}

// P24.3: of an odd number the greatest one stays, of an even one none; the coin's one of each two goes up.
func TestPack(t *testing.T) {
	for _, c := range []struct {
		list []int64
		coin byte
		low  []int64
		high []int64
	}{
		{row(1, 1, 9), 0, []int64{9}, []int64{1, 3, 5, 7}},
		{row(1, 1, 9), 1, []int64{9}, []int64{2, 4, 6, 8}},
		{row(1, 1, 9), 2, []int64{9}, []int64{1, 3, 5, 7}},
		{[]int64{9, 8, 7, 6, 5, 4, 3, 2, 1}, 1, []int64{9}, []int64{2, 4, 6, 8}},
		{[]int64{5, 5, 5, 5, 5, 5, 5, 5, 5}, 1, []int64{5}, []int64{5, 5, 5, 5}},
		{[]int64{lowest, highest, 0, 1, -1, highest, lowest, 2, 3}, 1, []int64{highest}, []int64{lowest, 0, 2, highest}},
		{[]int64{lowest, highest, 0, 1, -1, highest, lowest, 2, 3}, 0, []int64{highest}, []int64{lowest, -1, 1, 3}},
	} {
		s, coins := empty(t, 8), kll.NewCoins([]byte{c.coin})
		for _, v := range c.list {
			wantAdd(t, s, v, 1, coins, api.OK)
		}
		wantLevels(t, s, 1, c.low, c.high)
		wantCoins(t, coins, bitsOf([]byte{c.coin})[1:])
	}
	for coin, want := range [][]int64{{1, 3, 5, 7, 100}, {2, 4, 6, 8, 100}} {
		s, _ := made(t, 8, ones(1, 1, 8)...)
		wantAdd(t, s, 100, 2, kll.NewCoins([]byte{byte(coin)}), api.OK) // of two levels the lower one has room for 6
		wantLevels(t, s, 1, nil, want)
	}
}

// P24.3: the least level is packed first, each with a coin of its own; those that go up come among those that are there.
func TestPackOrder(t *testing.T) {
	for coins, want := range [][]int64{
		{1, 5, 11, 13, 15, 50}, // 1 3 5 went up first: of 1 3 5 10 to 17
		{2, 6, 11, 13, 15, 50},
		{3, 10, 12, 14, 16, 50},
		{4, 10, 12, 14, 16, 50},
	} {
		s := loaded(t, &model{8, [][]int64{row(1, 1, 6), row(10, 1, 8)}, 0})
		c := kll.NewCoins([]byte{byte(coins)})
		wantAdd(t, s, 50, 4, c, api.OK) // three levels have room for 4, 6 and 8
		wantLevels(t, s, 3, nil, []int64{17}, want)
		wantCoins(t, c, bitsOf([]byte{byte(coins)})[2:])
	}
}

// P24.3: a level that comes to be leaves those below less room.
func TestPackAgain(t *testing.T) {
	s := loaded(t, &model{8, [][]int64{row(1, 1, 6), row(10, 1, 8)}, 0})
	c := kll.NewCoins([]byte{0b10})
	wantAdd(t, s, 18, 2, c, api.OK) // the level 1 by the coin 0; then the level 0 by the coin 1
	wantLevels(t, s, 3, nil, []int64{2, 4, 6, 18}, []int64{10, 12, 14, 16})
	wantCoins(t, c, bitsOf([]byte{0})[2:])
}

// P24.3, P24.4: many values of any sizes, with coins that end.
func TestPackMany(t *testing.T) {
	dice := rand.New(rand.NewSource(246))
	for _, k := range []int{8, 9, 10, 11, 50, 300} {
		b := make([]byte, 60)
		dice.Read(b)
		s, w, c, l := empty(t, k), &model{k: k}, kll.NewCoins(b), bitsOf(b)
		for range 3000 {
			v := anyValue(dice)
			wantAdd(t, s, v, 1, c, w.add(v, 1, &l))
			wantCoins(t, c, l)
		}
		holdAll(t, s, w)
		wantTake(t, s, s, c, w.take(w, &l))
		holdAll(t, s, w)
	}
}

// P24.3, P24.4: a stack of the greatest size.
func TestPackGreatest(t *testing.T) {
	dice := rand.New(rand.NewSource(247))
	b := make([]byte, 8)
	dice.Read(b)
	s, w, c, l := empty(t, 4096), &model{k: 4096}, kll.NewCoins(b), bitsOf(b)
	for range 9000 {
		v := int64(dice.Uint64())
		wantAdd(t, s, v, 1, c, w.add(v, 1, &l))
	}
	o, u := s, w.copied()
	for range 3 {
		wantTake(t, s, o, c, w.take(u.copied(), &l))
		u = w.copied()
	}
	wantCoins(t, c, l)
	hold(t, s, w)
	for range 20 {
		holdAt(t, s, w, dice.Uint64()>>2, 1<<62)
		holdBetween(t, s, w, int64(dice.Uint64()))
	}
}

// came are all values that came, by size, with their weights.
type came []item

// weight is how much came that some ask for.
func (l came) weight(asked func(v int64) bool) uint64 {
	var n uint64
	for _, i := range l {
		if asked(i.v) {
			n += i.n
		}
	}
	return n
}

// total is how much came.
func (l came) total() uint64 { return l.weight(func(int64) bool { return true }) }

// holdNear holds P24.8 of any parts of what came.
func holdNear(t *testing.T, s *kll.Stack, l came, dice *rand.Rand) {
	t.Helper()
	if s.Total() != l.total() {
		t.Fatalf("Total: %d, not %d", s.Total(), l.total())
	}
	if many := s.Kept(); many > 3*s.Size()+2*len(s.Levels()) {
		t.Fatalf("%d values are kept in %d levels of the size %d", many, len(s.Levels()), s.Size())
	}
	if l.total() == 0 {
		return
	}
	for _, num := range []uint64{0, 1 << 62, dice.Uint64() >> 2, dice.Uint64() >> 2, dice.Uint64() >> dice.Intn(62) >> 2} {
		y, e, err := s.At(num, 1<<62)
		if err != api.OK || e != s.Ledger() || !slices.ContainsFunc(l, func(i item) bool { return i.v == y }) {
			t.Fatalf("At(%d, 1<<62): %d, %d, %d", num, y, e, err)
		}
		rank := rankOf(num, 1<<62, l.total())
		less, upto := l.weight(func(v int64) bool { return v < y }), l.weight(func(v int64) bool { return v <= y })
		if less >= rank+e || upto+e < rank {
			t.Fatalf("At(%d, 1<<62): %d, but %d are less, %d aren't greater, of rank %d, and E is %d", num, y, less, upto, rank, e)
		}
		l, u := s.Between(y)
		if l > less+e || less > l+e || u > upto+e || upto > u+e {
			t.Fatalf("Between(%d): %d, %d, not %d, %d, and E is %d", y, l, u, less, upto, e)
		}
	}
}

// P24.8: ranks are off by no more than the ledger, no weight is lost, and few values are kept, whatever comes and is taken.
func TestNear(t *testing.T) {
	dice := rand.New(rand.NewSource(248))
	for range 60 {
		k := anySize(dice)
		s, all := [2]*kll.Stack{empty(t, k), empty(t, k)}, [2]came{}
		for range 300 {
			i := dice.Intn(2)
			c, _ := anyCoins(dice)
			if dice.Intn(100) == 0 && s[0].Total()+s[1].Total() < full/2 {
				wantTake(t, s[i], s[1-i], c, api.OK)
				all[i] = append(all[i], all[1-i]...)
				holdNear(t, s[i], all[i], dice)
				continue
			}
			v, n := anyValue(dice), anyWeight(dice)
			if s[i].Add(v, n, c) == api.OK {
				all[i] = append(all[i], item{v, n})
			}
			holdNear(t, s[i], all[i], dice)
		}
	}
}

// P24.8: by rising and falling values, and with coins that are alike, ranks are off the most; E tells it.
func TestNearByCoins(t *testing.T) {
	dice := rand.New(rand.NewSource(249))
	for _, b := range []byte{0, 255, 0x55} {
		for _, by := range []int64{-1, 1, 0} {
			s, l := empty(t, 8), came{}
			coins := kll.NewCoins(slices.Repeat([]byte{b}, 1000))
			for i := range int64(1500) {
				wantAdd(t, s, by*i, 1, coins, api.OK)
				l = append(l, item{by * i, 1})
			}
			holdNear(t, s, l, dice)
		}
	}
}
