package sparse_test

import (
	"maps"
	"math"
	"math/big"
	"math/rand"
	"slices"
	"testing"

	"theodolite/api"
	"theodolite/sparse"
)

const (
	greatest = 1 << 20
	top      = 1 << 62
)

// model is a list by the chapter's words: keys, and how often each was counted.
type model map[int]uint64

// sum is how many things there are of the keys of which it holds, however many.
func (m model) sum(holds func(k int) bool) *big.Int {
	sum := new(big.Int)
	for k, n := range m {
		if holds(k) {
			sum.Add(sum, new(big.Int).SetUint64(n))
		}
	}
	return sum
}

// total is all counts together.
func (m model) total() *big.Int { return m.sum(func(int) bool { return true }) }

// below is how many things have a lesser key.
func (m model) below(k int) *big.Int { return m.sum(func(key int) bool { return key < k }) }

// upto is how many things have no greater key.
func (m model) upto(k int) *big.Int { return m.sum(func(key int) bool { return key <= k }) }

// tooMany is whether the total and n more are above MaxTotal.
func (m model) tooMany(n *big.Int) bool {
	return n.Add(n, m.total()).Cmp(big.NewInt(top)) > 0
}

// add is what P14.1's words make of Add.
func (m model) add(k int, n uint64) api.Errno {
	switch {
	case n == 0:
		return api.ErrWeight
	case k < -greatest || k > greatest:
		return api.ErrRange
	case m.tooMany(new(big.Int).SetUint64(n)):
		return api.ErrCap
	}
	m[k] += n
	return api.OK
}

// take is what P14.2's words make of Take; t may be nil, which is no list.
func (m model) take(t model) api.Errno {
	switch {
	case t == nil:
		return api.ErrArg
	case m.tooMany(t.total()):
		return api.ErrCap
	}
	for k, n := range maps.Clone(t) {
		m[k] += n
	}
	return api.OK
}

// cut is what P14.5's words make of Cut: key by key, the least one is put to the next one.
func (m model) cut(most int) uint64 {
	l := slices.Sorted(maps.Keys(m))
	put := uint64(0)
	for len(l) > max(most, 1) {
		put += m[l[0]]
		delete(m, l[0])
		l = l[1:]
		if len(l) == max(most, 1) {
			m[l[0]] += put
		}
	}
	return put
}

// key is what P14.4's words make of Key.
func (m model) key(r uint64) (int, api.Errno) {
	rank := new(big.Int).SetUint64(r)
	switch {
	case len(m) == 0:
		return 0, api.ErrEmpty
	case r < 1 || rank.Cmp(m.total()) > 0:
		return 0, api.ErrArg
	}
	var l []int
	for k := range m {
		if m.upto(k).Cmp(rank) >= 0 {
			l = append(l, k)
		}
	}
	return slices.Min(l), api.OK
}

// pairs are the keys, rising, and how often they were counted.
func (m model) pairs() []api.Pair {
	var l []api.Pair
	for _, k := range slices.Sorted(maps.Keys(m)) {
		l = append(l, api.Pair{Key: k, N: m[k]})
	}
	return l
}

// hold holds what a list tells of its counts against the model (P14.3).
func hold(t *testing.T, s *sparse.List, m model) {
	t.Helper()
	want := m.pairs()
	if l := s.Pairs(); !slices.Equal(l, want) {
		t.Fatalf("Pairs: %d, not %d", l, want)
	}
	if n := s.Len(); n != len(m) {
		t.Fatalf("Len: %d, not %d", n, len(m))
	}
	if n := s.Total(); new(big.Int).SetUint64(n).Cmp(m.total()) != 0 {
		t.Fatalf("Total: %d, not %d", n, m.total())
	}
}

// holdRanks holds all that a list tells of keys and ranks about its own ones against the model (P14.3, P14.4).
func holdRanks(t *testing.T, s *sparse.List, m model) {
	t.Helper()
	keys := []int{math.MinInt, -greatest - 1, 0, greatest + 1, math.MaxInt}
	ranks := []uint64{0, 1, top, top + 1, math.MaxUint64}
	for k := range m {
		keys = append(keys, k-1, k, k+1)
		low, high := m.below(k).Uint64(), m.upto(k).Uint64()
		ranks = append(ranks, low, low+1, high-m[k]/2, high, high+1)
	}
	for _, k := range keys {
		if n, want := s.Below(k), m.below(k); new(big.Int).SetUint64(n).Cmp(want) != 0 {
			t.Fatalf("Below(%d): %d, not %d", k, n, want)
		}
		if n, want := s.Upto(k), m.upto(k); new(big.Int).SetUint64(n).Cmp(want) != 0 {
			t.Fatalf("Upto(%d): %d, not %d", k, n, want)
		}
	}
	for _, r := range ranks {
		want, err := m.key(r)
		if k, e := s.Key(r); k != want || e != err {
			t.Fatalf("Key(%d): %d, %d, not %d, %d", r, k, e, want, err)
		}
	}
}

// made is a list that counted each key as often as it says, by Add.
func made(t *testing.T, l ...api.Pair) *sparse.List {
	t.Helper()
	s := &sparse.List{}
	for _, p := range l {
		if e := s.Add(p.Key, p.N); e != api.OK {
			t.Fatalf("Add(%d, %d): %d", p.Key, p.N, e)
		}
	}
	return s
}

// modelOf is the model of the same.
func modelOf(l ...api.Pair) model {
	m := model{}
	for _, p := range l {
		m[p.Key] += p.N
	}
	return m
}

// shuffled is a list in any order.
func shuffled(dice *rand.Rand, l []api.Pair) []api.Pair {
	l = slices.Clone(l)
	dice.Shuffle(len(l), func(i, j int) { l[i], l[j] = l[j], l[i] })
	return l
}

// anyKey is a key that is likely to be one of few, now and then any number.
func anyKey(dice *rand.Rand) int {
	switch dice.Intn(8) {
	case 0:
		return int(dice.Uint64()) >> dice.Intn(64)
	case 1:
		return dice.Intn(2*greatest+1) - greatest
	}
	return dice.Intn(40) - 20
}

// anyCount is how often a key is counted: few times, now and then any number.
func anyCount(dice *rand.Rand) uint64 {
	if dice.Intn(4) == 0 {
		return dice.Uint64() >> dice.Intn(64)
	}
	return uint64(dice.Intn(5))
}

// anyPairs are pairs that may be counted, in any order; some keys come more than once.
func anyPairs(dice *rand.Rand, many int) []api.Pair {
	var l []api.Pair
	for range dice.Intn(many) {
		l = append(l, api.Pair{Key: max(min(anyKey(dice), greatest), -greatest), N: 1 + dice.Uint64()>>(12+dice.Intn(50))})
	}
	return l
}
