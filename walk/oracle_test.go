package walk_test

import (
	"math"
	"math/big"
	"math/rand"
	"slices"
	"testing"

	"theodolite/api"
	"theodolite/walk"
)

const top = 1 << 62

// model is a table by the chapter's words: its pairs, all that is told of them being counted anew.
type model []api.Pair

// sum is how many things have keys of which it holds.
func (m model) sum(holds func(k int) bool) uint64 {
	all := uint64(0)
	for _, p := range m {
		if holds(p.Key) {
			all += p.N
		}
	}
	return all
}

func (m model) below(k int) uint64 { return m.sum(func(key int) bool { return key < k }) }
func (m model) upto(k int) uint64  { return m.sum(func(key int) bool { return key <= k }) }
func (m model) total() uint64      { return m.upto(math.MaxInt) }

// key is what P16.2's words make of Key: the least key up to which there are at least r.
func (m model) key(r uint64) (int, api.Errno) {
	switch {
	case len(m) == 0:
		return 0, api.ErrEmpty
	case r == 0:
		return 0, api.ErrArg
	}
	for _, p := range m {
		if m.upto(p.Key) >= r {
			return p.Key, api.OK
		}
	}
	return 0, api.ErrArg
}

// part is what P16.2's words make of Part, the rank being the least whole number that isn't below num n / den, but at least 1.
func (m model) part(num, den uint64) (int, api.Errno) {
	switch {
	case den == 0 || num > den:
		return 0, api.ErrQuant
	case len(m) == 0:
		return 0, api.ErrEmpty
	}
	n := new(big.Int).Mul(big64(num), big64(m.total()))
	at, left := n.QuoRem(n, big64(den), new(big.Int))
	r := at.Uint64()
	if left.Sign() > 0 || r == 0 {
		r++
	}
	return m.key(r)
}

// share is what P16.3's words make of Share.
func (m model) share(k int) (uint64, uint64, api.Errno) {
	if len(m) == 0 {
		return 0, 0, api.ErrEmpty
	}
	p := new(big.Rat).SetFrac(big64(m.upto(k)), big64(m.total()))
	return p.Num().Uint64(), p.Denom().Uint64(), api.OK
}

// most is what P16.4's words make of Most.
func (m model) most() (int, uint64, api.Errno) {
	if len(m) == 0 {
		return 0, 0, api.ErrEmpty
	}
	best := slices.MinFunc(m, func(p, q api.Pair) int {
		if p.N > q.N || p.N == q.N && p.Key < q.Key {
			return -1
		}
		return 1
	})
	return best.Key, best.N, api.OK
}

// parts is what P16.4's words make of Parts.
func (m model) parts(n int) ([]int, api.Errno) {
	switch {
	case n < 1 || n > 1000:
		return nil, api.ErrArg
	case len(m) == 0:
		return nil, api.ErrEmpty
	}
	var l []int
	for i := 1; i < n; i++ {
		k, _ := m.part(uint64(i), uint64(n))
		l = append(l, k)
	}
	return l, api.OK
}

// steps is what P16.5's words make of Steps.
func (m model) steps() []told {
	var l []told
	for _, p := range m {
		l = append(l, told{m.upto(p.Key), p.Key})
	}
	return l
}

// told is a step that was told.
type told struct {
	rank uint64
	key  int
}

// gone is all that a range over Steps tells.
func gone(t *walk.Table) []told {
	var l []told
	for r, k := range t.Steps() {
		l = append(l, told{r, k})
	}
	return l
}

func big64(n uint64) *big.Int { return new(big.Int).SetUint64(n) }

// made is the table of these pairs.
func made(t *testing.T, l ...api.Pair) *walk.Table {
	t.Helper()
	x, e := walk.New(l)
	if x == nil || e != api.OK {
		t.Fatalf("New(%d): %v, %d", l, x, e)
	}
	return x
}

// hold holds what a table tells of its whole against the model.
func hold(t *testing.T, x *walk.Table, m model) {
	t.Helper()
	if n, keys := x.Total(), x.Len(); n != m.total() || keys != len(m) {
		t.Fatalf("%d: Total: %d, not %d; Len: %d", m, n, m.total(), keys)
	}
	if l := gone(x); !slices.Equal(l, m.steps()) {
		t.Fatalf("%d: Steps: %d, not %d", m, l, m.steps())
	}
	wantKey, wantN, want := m.most()
	if k, n, e := x.Most(); k != wantKey || n != wantN || e != want {
		t.Fatalf("%d: Most: %d, %d, %d, not %d, %d, %d", m, k, n, e, wantKey, wantN, want)
	}
}

// holdKeys holds what a table tells of keys, by ranks, and of ranks, by keys, about each of its ends against the model.
func holdKeys(t *testing.T, x *walk.Table, m model) {
	t.Helper()
	keys := []int{math.MinInt, -1, 0, 1, math.MaxInt}
	ranks := []uint64{0, 1, m.total(), m.total() + 1, top, top + 1, math.MaxUint64}
	for _, p := range m {
		keys = append(keys, p.Key-1, p.Key, p.Key+1)
		ranks = append(ranks, m.below(p.Key), m.below(p.Key)+1, m.upto(p.Key), m.upto(p.Key)+1)
	}
	for _, k := range keys {
		if a, b := x.Below(k), x.Upto(k); a != m.below(k) || b != m.upto(k) {
			t.Fatalf("%d: Below(%d): %d, not %d; Upto: %d, not %d", m, k, a, m.below(k), b, m.upto(k))
		}
		wantNum, wantDen, want := m.share(k)
		if num, den, e := x.Share(k); num != wantNum || den != wantDen || e != want {
			t.Fatalf("%d: Share(%d): %d, %d, %d, not %d, %d, %d", m, k, num, den, e, wantNum, wantDen, want)
		}
	}
	for _, r := range ranks {
		wantKey, want := m.key(r)
		if k, e := x.Key(r); k != wantKey || e != want {
			t.Fatalf("%d: Key(%d): %d, %d, not %d, %d", m, r, k, e, wantKey, want)
		}
	}
}

// holdPart holds what a table tells of a part against the model.
func holdPart(t *testing.T, x *walk.Table, m model, num, den uint64) {
	t.Helper()
	wantKey, want := m.part(num, den)
	if k, e := x.Part(num, den); k != wantKey || e != want {
		t.Fatalf("%d: Part(%d, %d): %d, %d, not %d, %d", m, num, den, k, e, wantKey, want)
	}
}

// holdParts holds what a table tells of so many parts against the model.
func holdParts(t *testing.T, x *walk.Table, m model, n int) {
	t.Helper()
	wantKeys, want := m.parts(n)
	if l, e := x.Parts(n); !slices.Equal(l, wantKeys) || e != want {
		t.Fatalf("%d: Parts(%d): %d, %d, not %d, %d", m, n, l, e, wantKeys, want)
	}
}

// anyPairs are pairs of a table: rising keys, near each other or anywhere, counted few times or often.
func anyPairs(dice *rand.Rand, many int) []api.Pair {
	at := map[int]bool{}
	for range dice.Intn(many) {
		if dice.Intn(3) == 0 {
			at[int(dice.Uint64())>>dice.Intn(64)] = true
		} else {
			at[dice.Intn(60)-30] = true
		}
	}
	var l []api.Pair
	for k := range at {
		n := uint64(1 + dice.Intn(4))
		if dice.Intn(3) == 0 {
			n = 1 + dice.Uint64()>>(10+dice.Intn(54)) // 2^54 at most, so that all together are below the greatest total
		}
		l = append(l, api.Pair{Key: k, N: n})
	}
	slices.SortFunc(l, func(p, q api.Pair) int {
		if p.Key < q.Key {
			return -1
		}
		return 1
	})
	return l
}
