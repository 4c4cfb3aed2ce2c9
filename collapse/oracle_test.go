package collapse_test

import (
	"maps"
	"math"
	"math/rand"
	"slices"
	"testing"

	"theodolite/api"
	"theodolite/collapse"
)

const (
	greatest = 1 << 20
	top      = 1 << 62
)

// model is all that was counted, by the chapter's words: keys, and how often each was, none of them taken together.
type model struct {
	budget int
	all    map[int]uint64
}

// modelOf is the model of what counted each key as often as it says.
func modelOf(budget int, l ...api.Pair) model {
	m := model{budget, map[int]uint64{}}
	for _, p := range l {
		m.all[p.Key] += p.N
	}
	return m
}

// total is all counts together.
func (m model) total() uint64 {
	sum := uint64(0)
	for _, n := range m.all {
		sum += n
	}
	return sum
}

// tooMany is whether the total and n more are above MaxTotal.
func (m model) tooMany(n uint64) bool { return n > top || m.total()+n > top }

// add is what P15.2's words make of Add.
func (m model) add(k int, n uint64) api.Errno {
	switch {
	case n == 0:
		return api.ErrWeight
	case k < -greatest || k > greatest:
		return api.ErrRange
	case m.tooMany(n):
		return api.ErrCap
	}
	m.all[k] += n
	return api.OK
}

// take is what P15.2's words make of Take.
func (m model) take(t model) api.Errno {
	switch {
	case t.budget != m.budget:
		return api.ErrKind
	case m.tooMany(t.total()):
		return api.ErrCap
	}
	for k, n := range maps.Clone(t.all) {
		m.all[k] += n
	}
	return api.OK
}

// edge is the least key that is kept; there is one.
func (m model) edge() int {
	l := slices.Sorted(maps.Keys(m.all))
	return l[max(len(l)-m.budget, 0)]
}

// kept are the pairs that are kept, and how much is folded.
func (m model) kept() ([]api.Pair, uint64) {
	if len(m.all) == 0 {
		return nil, 0
	}
	edge, stays, folded := m.edge(), map[int]uint64{}, uint64(0)
	for k, n := range m.all {
		stays[max(k, edge)] += n
		if k < edge {
			folded += n
		}
	}
	var l []api.Pair
	for _, k := range slices.Sorted(maps.Keys(stays)) {
		l = append(l, api.Pair{Key: k, N: stays[k]})
	}
	return l, folded
}

// sum is how many things there are in a list of the keys of which it holds.
func sum(l []api.Pair, holds func(k int) bool) uint64 {
	all := uint64(0)
	for _, p := range l {
		if holds(p.Key) {
			all += p.N
		}
	}
	return all
}

// key is the key of the thing of rank r in a list, which has so many things; as layer 14's words say.
func key(l []api.Pair, r uint64) (int, api.Errno) {
	switch {
	case len(l) == 0:
		return 0, api.ErrEmpty
	case r == 0:
		return 0, api.ErrArg
	}
	for _, p := range l {
		if sum(l, func(k int) bool { return k <= p.Key }) >= r {
			return p.Key, api.OK
		}
	}
	return 0, api.ErrArg
}

// hold holds what a store tells of its counts against the model (P15.1, P15.3).
func hold(t *testing.T, s *collapse.Store, m model) {
	t.Helper()
	want, folded := m.kept()
	if l := s.Pairs(); !slices.Equal(l, want) {
		t.Fatalf("Pairs: %d, not %d", l, want)
	}
	if n := s.Folded(); n != folded {
		t.Fatalf("Folded: %d, not %d", n, folded)
	}
	if n := s.Len(); n != len(want) {
		t.Fatalf("Len: %d, not %d", n, len(want))
	}
	if n := s.Total(); n != m.total() {
		t.Fatalf("Total: %d, not %d", n, m.total())
	}
	if b := s.Budget(); b != m.budget {
		t.Fatalf("Budget: %d, not %d", b, m.budget)
	}
}

// holdRanks holds all that a store tells of keys and ranks about its own ones against the model (P15.3, P15.4).
func holdRanks(t *testing.T, s *collapse.Store, m model) {
	t.Helper()
	l, folded := m.kept()
	keys := []int{math.MinInt, -greatest - 1, 0, greatest + 1, math.MaxInt}
	ranks := []uint64{0, 1, m.total(), m.total() + 1, top, top + 1, math.MaxUint64, folded, folded + 1}
	for k := range m.all {
		keys = append(keys, k-1, k, k+1)
	}
	for _, k := range keys {
		below, upto := sum(l, func(key int) bool { return key < k }), sum(l, func(key int) bool { return key <= k })
		if a, b := s.Below(k), s.Upto(k); a != below || b != upto {
			t.Fatalf("Below(%d): %d, not %d; Upto: %d, not %d", k, a, below, b, upto)
		}
		ranks = append(ranks, below, below+1, (below+upto)/2, upto, upto+1)
	}
	for _, r := range ranks {
		want, err := key(l, r)
		vague := err == api.OK && folded > 0 && want == m.edge()
		if k, v, e := s.Key(r); k != want || v != vague || e != err {
			t.Fatalf("Key(%d): %d, %t, %d, not %d, %t, %d", r, k, v, e, want, vague, err)
		}
	}
}

// empty is a store of this budget.
func empty(t *testing.T, budget int) *collapse.Store {
	t.Helper()
	s, e := collapse.New(budget)
	if s == nil || e != api.OK {
		t.Fatalf("New(%d): %v, %d", budget, s, e)
	}
	return s
}

// made is a store that counted each key as often as it says, by Add.
func made(t *testing.T, budget int, l ...api.Pair) *collapse.Store {
	t.Helper()
	s := empty(t, budget)
	for _, p := range l {
		wantAdd(t, s, p.Key, p.N, api.OK)
	}
	return s
}

// loaded is the store that Load makes of what another one keeps.
func loaded(t *testing.T, s *collapse.Store) *collapse.Store {
	t.Helper()
	o, e := collapse.Load(s.Budget(), s.Pairs(), s.Folded())
	if o == nil || e != api.OK {
		t.Fatalf("Load(%d, %d, %d): %v, %d", s.Budget(), s.Pairs(), s.Folded(), o, e)
	}
	return o
}

// wantAdd holds what Add answers against what is wanted.
func wantAdd(t *testing.T, s *collapse.Store, k int, n uint64, want api.Errno) {
	t.Helper()
	if e := s.Add(k, n); e != want {
		t.Fatalf("Add(%d, %d): %d, not %d", k, n, e, want)
	}
}

// wantTake holds what Take answers against what is wanted.
func wantTake(t *testing.T, s, o *collapse.Store, want api.Errno) {
	t.Helper()
	if e := s.Take(o); e != want {
		t.Fatalf("Take of %d by %d: %d, not %d", o.Pairs(), s.Pairs(), e, want)
	}
}

// shuffled is a list in any order.
func shuffled(dice *rand.Rand, l []api.Pair) []api.Pair {
	l = slices.Clone(l)
	dice.Shuffle(len(l), func(i, j int) { l[i], l[j] = l[j], l[i] })
	return l
}

// anyKey is a key that is likely to be one of few, now and then any number.
func anyKey(dice *rand.Rand) int {
	switch dice.Intn(12) {
	case 0:
		return int(dice.Uint64()) >> dice.Intn(64)
	case 1:
		return dice.Intn(2*greatest+1) - greatest
	}
	return dice.Intn(40) - 20
}

// anyCount is how often a key is counted: few times, now and then any number.
func anyCount(dice *rand.Rand) uint64 {
	if dice.Intn(6) == 0 {
		return dice.Uint64() >> dice.Intn(64)
	}
	return uint64(dice.Intn(5))
}

// anyPairs are pairs that may be counted, in any order; some keys come more than once.
func anyPairs(dice *rand.Rand, many int) []api.Pair {
	var l []api.Pair
	for range dice.Intn(many) {
		l = append(l, api.Pair{Key: max(min(anyKey(dice), greatest), -greatest), N: 1 + dice.Uint64()>>(12+dice.Intn(50))})
	}
	return l
}
