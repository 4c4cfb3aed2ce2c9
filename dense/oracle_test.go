package dense_test

import (
	"maps"
	"math/big"
	"math/rand"
	"slices"
	"testing"

	"theodolite/api"
	"theodolite/dense"
)

// model is a store by the chapter's words: keys, and how often each was counted.
type model map[int]uint64

// window is how many keys there are from the least one to the greatest one.
func (m model) window() int {
	if len(m) == 0 {
		return 0
	}
	l := slices.Sorted(maps.Keys(m))
	return l[len(l)-1] - l[0] + 1
}

// total is all counts together, however many.
func (m model) total() *big.Int {
	sum := new(big.Int)
	for _, n := range m {
		sum.Add(sum, new(big.Int).SetUint64(n))
	}
	return sum
}

// tooMany is whether the total and n more are above MaxTotal.
func (m model) tooMany(n *big.Int) bool {
	return n.Add(n, m.total()).Cmp(big.NewInt(api.MaxTotal)) > 0
}

// add is what P13.1's words make of Add.
func (m model) add(k int, n uint64) api.Errno {
	more := maps.Clone(m)
	more[k] = 1
	switch {
	case n == 0:
		return api.ErrWeight
	case k < -1<<20 || k > 1<<20:
		return api.ErrRange
	case more.window() > 8192:
		return api.ErrFull
	case m.tooMany(new(big.Int).SetUint64(n)):
		return api.ErrCap
	}
	m[k] += n
	return api.OK
}

// take is what P13.2's words make of Take; t may be nil, which is no store.
func (m model) take(t model) api.Errno {
	if t == nil {
		return api.ErrArg
	}
	both := maps.Clone(m)
	maps.Copy(both, t)
	switch {
	case len(t) == 0:
		return api.OK
	case both.window() > 8192:
		return api.ErrFull
	case m.tooMany(t.total()):
		return api.ErrCap
	}
	for k, n := range maps.Clone(t) {
		m[k] += n
	}
	return api.OK
}

// drop is what P13.4's words make of Drop.
func (m model) drop(k int) uint64 {
	n := m[k]
	delete(m, k)
	return n
}

// pairs are the keys, rising, and how often they were counted.
func (m model) pairs() []api.Pair {
	var l []api.Pair
	for _, k := range slices.Sorted(maps.Keys(m)) {
		l = append(l, api.Pair{Key: k, N: m[k]})
	}
	return l
}

// hold holds all that a store tells against the model (P13.3).
func hold(t *testing.T, s *dense.Store, m model) {
	t.Helper()
	want := m.pairs()
	if l := s.Pairs(); !slices.Equal(l, want) {
		t.Fatalf("Pairs: %d, not %d", l, want)
	}
	if n := s.Len(); n != len(m) {
		t.Fatalf("Len: %d, not %d", n, len(m))
	}
	if n := s.Total(); new(big.Int).SetUint64(n).Cmp(m.total()) != 0 {
		t.Fatalf("Total: %d, not %d", n, m.total())
	}
	least, most := 0, 0
	if len(want) > 0 {
		least, most = want[0].Key, want[len(want)-1].Key
	}
	if a, b, ok := s.Ends(); a != least || b != most || ok != (len(m) > 0) {
		t.Fatalf("Ends: %d, %d, %t, not %d, %d", a, b, ok, least, most)
	}
	for _, p := range want {
		for _, k := range []int{p.Key - 1, p.Key, p.Key + 1} {
			if n := s.Count(k); n != m[k] {
				t.Fatalf("Count(%d): %d, not %d", k, n, m[k])
			}
		}
	}
}

// made is a store that counted each key of a list as often as it says.
func made(t *testing.T, l ...api.Pair) *dense.Store {
	t.Helper()
	s := &dense.Store{}
	for _, p := range l {
		if e := s.Add(p.Key, p.N); e != api.OK {
			t.Fatalf("Add(%d, %d): %d", p.Key, p.N, e)
		}
	}
	return s
}

// modelOf is the model of the same.
func modelOf(l ...api.Pair) model {
	m := model{}
	for _, p := range l {
		m[p.Key] += p.N
	}
	return m
}

// shuffled is a list in any order.
func shuffled(dice *rand.Rand, l []api.Pair) []api.Pair {
	l = slices.Clone(l)
	dice.Shuffle(len(l), func(i, j int) { l[i], l[j] = l[j], l[i] })
	return l
}

// anyKey is a key that is likely to be one of few, or about a window's end, now and then any number.
func anyKey(dice *rand.Rand) int {
	switch dice.Intn(10) {
	case 0:
		return int(dice.Uint64()) >> dice.Intn(64)
	case 1:
		return (8180 + dice.Intn(20)) * (1 - 2*dice.Intn(2))
	case 2:
		return dice.Intn(8300) - 4150
	}
	return dice.Intn(60) - 30
}

// anyCount is how often a key is counted: few times, now and then any number.
func anyCount(dice *rand.Rand) uint64 {
	if dice.Intn(4) == 0 {
		return dice.Uint64() >> dice.Intn(64)
	}
	return uint64(dice.Intn(5))
}
