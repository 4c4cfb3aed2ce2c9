package dd_test

import (
	"fmt"
	"maps"
	"math"
	"math/big"
	"math/rand"
	"slices"
	"testing"

	"theodolite/api"
	"theodolite/dd"
)

const (
	least = math.MinInt64
	last  = math.MaxInt64
	most  = 1 << 62 // the greatest total
)

// came is a value that was added, and how often.
type came struct {
	v int64
	n uint64
}

// place is a range by chapter 12's words.
type place struct{ begin, middle, end int64 }

// places are the ranges that were reckoned already, by their accuracies.
var places = map[int][]place{}

// ranges are all ranges of an accuracy, reckoned by numbers of any size.
func ranges(a int) []place {
	if places[a] != nil {
		return places[a]
	}
	var l []place
	for at := int64(0); at < last; at = l[len(l)-1].end {
		begin := big.NewInt(at + 1)
		middle := capped(new(big.Int).Add(begin, quotient(a, begin, 10000)))
		end := capped(quotient(10000, middle, 10000-a))
		l = append(l, place{at + 1, middle.Int64(), end.Int64()})
	}
	places[a] = l
	return l
}

// quotient is the floor of a b / d.
func quotient(a int, b *big.Int, d int) *big.Int {
	n := new(big.Int).Mul(big.NewInt(int64(a)), b)
	return n.Quo(n, big.NewInt(int64(d)))
}

// capped is n, but at most 2^63 - 1.
func capped(n *big.Int) *big.Int {
	if n.IsInt64() {
		return n
	}
	return big.NewInt(last)
}

// model is a sketch by the chapter's words: all that was added, none of it taken together.
type model struct {
	a, m int
	all  []came
}

// modelOf is the model to which these values were added.
func modelOf(a, m int, all ...came) *model { return &model{a, m, slices.Clone(all)} }

// String is for what fails: not all that came is told.
func (w *model) String() string {
	if len(w.all) > 30 {
		return fmt.Sprintf("%d %d, %d values", w.a, w.m, len(w.all))
	}
	return fmt.Sprintf("%d %d, %d", w.a, w.m, w.all)
}

// key is the key of a value, which isn't -2^63.
func (w *model) key(v int64) int {
	switch {
	case v == 0:
		return 0
	case v < 0:
		return -w.key(-v)
	}
	at, _ := slices.BinarySearchFunc(ranges(w.a), v, func(p place, v int64) int {
		switch {
		case p.end < v:
			return -1
		case p.begin > v:
			return 1
		}
		return 0
	})
	return at + 1
}

// place is a key's range.
func (w *model) place(k int) place {
	switch {
	case k == 0:
		return place{}
	case k < 0:
		p := ranges(w.a)[-k-1]
		return place{-p.end, -p.middle, -p.begin}
	}
	return ranges(w.a)[k-1]
}

// total is how much was added in all.
func (w *model) total() uint64 {
	sum := uint64(0)
	for _, c := range w.all {
		sum += c.n
	}
	return sum
}

// tooMany is whether the total would be too great with n more.
func (w *model) tooMany(n uint64) bool { return n > most || w.total()+n > most }

// add is what P20.2's words make of Add.
func (w *model) add(v int64, n uint64) api.Errno {
	switch {
	case n == 0:
		return api.ErrWeight
	case v == least:
		return api.ErrRange
	case w.tooMany(n):
		return api.ErrCap
	}
	w.all = append(w.all, came{v, n})
	return api.OK
}

// take is what P20.2's words make of Take.
func (w *model) take(o *model) api.Errno {
	switch {
	case o == nil:
		return api.ErrArg
	case o.a != w.a || o.m != w.m:
		return api.ErrKind
	case w.tooMany(o.total()):
		return api.ErrCap
	}
	w.all = append(w.all, slices.Clone(o.all)...)
	return api.OK
}

// counts are all keys that were added, and how often each was.
func (w *model) counts() map[int]uint64 {
	counts := map[int]uint64{}
	for _, c := range w.all {
		counts[w.key(c.v)] += c.n
	}
	return counts
}

// kept are the pairs that the store keeps, and how much is folded, by chapter 15's words.
func (w *model) kept() ([]api.Pair, uint64) {
	counts := w.counts()
	var l []api.Pair
	folded := uint64(0)
	keys := slices.Sorted(maps.Keys(counts))
	for i, k := range keys {
		if i < len(keys)-w.m {
			folded += counts[k]
			continue
		}
		l = append(l, api.Pair{Key: k, N: counts[k]})
	}
	if folded > 0 {
		l[0].N += folded
	}
	return l, folded
}

// at is what P20.4's words make of At.
func (w *model) at(num, den uint64) (int64, bool, api.Errno) {
	switch {
	case den == 0 || num > den:
		return 0, false, api.ErrQuant
	case len(w.all) == 0:
		return 0, false, api.ErrEmpty
	}
	l, folded := w.kept()
	r := ranked(num, den, w.total())
	for i, p := range l {
		if r <= p.N {
			return w.place(p.Key).middle, i == 0 && folded > 0, api.OK
		}
		r -= p.N
	}
	panic("there is no such rank")
}

// ranked is the rank of a part among n things: the least whole number that isn't below num n / den, but at least 1.
func ranked(num, den, n uint64) uint64 {
	r, left := new(big.Int).DivMod(new(big.Int).Mul(unsigned(num), unsigned(n)), unsigned(den), new(big.Int))
	if left.Sign() > 0 {
		r.Add(r, big.NewInt(1))
	}
	return max(r.Uint64(), 1)
}

// unsigned is a number without a sign, of any size.
func unsigned(n uint64) *big.Int { return new(big.Int).SetUint64(n) }

// between is what P20.4's words make of Between.
func (w *model) between(v int64) (below, upto uint64, e api.Errno) {
	if v == least {
		return 0, 0, api.ErrRange
	}
	k := w.key(v)
	l, _ := w.kept()
	for _, p := range l {
		if p.Key < k {
			below += p.N
		}
		if p.Key <= k {
			upto += p.N
		}
	}
	return below, upto, api.OK
}

// ends are what P20.5's words make of Ends.
func (w *model) ends() (int64, int64, api.Errno) {
	l, _ := w.kept()
	if len(l) == 0 {
		return 0, 0, api.ErrEmpty
	}
	return w.place(l[0].Key).begin, w.place(l[len(l)-1].Key).end, api.OK
}

// empty is a sketch to which nothing was added.
func empty(t *testing.T, a, m int) *dd.Sketch {
	t.Helper()
	s, e := dd.New(a, m)
	if s == nil || e != api.OK {
		t.Fatalf("New(%d, %d): %v, %d", a, m, s, e)
	}
	return s
}

// made is a sketch to which a model's values were added one by one.
func made(t *testing.T, w *model) *dd.Sketch {
	t.Helper()
	s := empty(t, w.a, w.m)
	for _, c := range w.all {
		wantAdd(t, s, c.v, c.n, api.OK)
	}
	return s
}

// loaded is the sketch that Load makes of what another one keeps.
func loaded(t *testing.T, s *dd.Sketch) *dd.Sketch {
	t.Helper()
	o, e := dd.Load(s.Accuracy(), s.Budget(), s.Pairs(), s.Folded())
	if o == nil || e != api.OK {
		t.Fatalf("Load(%d, %d, %d, %d): %v, %d", s.Accuracy(), s.Budget(), s.Pairs(), s.Folded(), o, e)
	}
	return o
}

// wantAdd holds what Add answers against what is wanted.
func wantAdd(t *testing.T, s *dd.Sketch, v int64, n uint64, want api.Errno) {
	t.Helper()
	if e := s.Add(v, n); e != want {
		t.Fatalf("Add(%d, %d): %d, not %d", v, n, e, want)
	}
}

// wantTake holds what Take answers against what is wanted.
func wantTake(t *testing.T, s, o *dd.Sketch, want api.Errno) {
	t.Helper()
	if e := s.Take(o); e != want {
		t.Fatalf("Take: %d, not %d", e, want)
	}
}

// hold holds what a sketch keeps against the model (P20.1, P20.3, P20.5).
func hold(t *testing.T, s *dd.Sketch, w *model) {
	t.Helper()
	l, folded := w.kept()
	if got := s.Pairs(); !slices.Equal(got, l) {
		t.Fatalf("%v: Pairs: %d, not %d", w, got, l)
	}
	if a, m, n, f := s.Accuracy(), s.Budget(), s.Total(), s.Folded(); a != w.a || m != w.m || n != w.total() || f != folded {
		t.Fatalf("%v: Accuracy: %d, Budget: %d, Total: %d, Folded: %d, not %d", w, a, m, n, f, folded)
	}
	low, high, err := w.ends()
	if a, b, e := s.Ends(); a != low || b != high || e != err {
		t.Fatalf("%v: Ends: %d, %d, %d, not %d, %d, %d", w, a, b, e, low, high, err)
	}
}

// holdAt holds what At tells of a part against the model (P20.4).
func holdAt(t *testing.T, s *dd.Sketch, w *model, num, den uint64) {
	t.Helper()
	want, hazy, err := w.at(num, den)
	if v, vague, e := s.At(num, den); v != want || vague != hazy || e != err {
		t.Fatalf("%v: At(%d, %d): %d, %t, %d, not %d, %t, %d", w, num, den, v, vague, e, want, hazy, err)
	}
}

// holdBetween holds what Between tells of a value against the model (P20.4).
func holdBetween(t *testing.T, s *dd.Sketch, w *model, v int64) {
	t.Helper()
	below, upto, err := w.between(v)
	if a, b, e := s.Between(v); a != below || b != upto || e != err {
		t.Fatalf("%v: Between(%d): %d, %d, %d, not %d, %d, %d", w, v, a, b, e, below, upto, err)
	}
}

// holdAll holds all that a sketch tells about what was added against the model.
func holdAll(t *testing.T, s *dd.Sketch, w *model) {
	t.Helper()
	hold(t, s, w)
	values := []int64{least, least + 1, -1, 0, 1, last}
	for _, c := range w.all {
		p := w.place(w.key(c.v))
		values = append(values, c.v, p.begin, p.end, max(p.begin, least+1)-1, min(p.end, last-1)+1)
	}
	for _, v := range values {
		holdBetween(t, s, w, v)
	}
	total := w.total()
	for _, c := range [][2]uint64{{0, 1}, {0, math.MaxUint64}, {1, 1}, {1, 2}, {1, 3}, {2, 3}, {99, 100}, {math.MaxUint64, math.MaxUint64}, {0, 0}, {1, 0}, {2, 1}, {math.MaxUint64, math.MaxUint64 - 1}} {
		holdAt(t, s, w, c[0], c[1])
	}
	if total == 0 {
		return
	}
	l, folded := w.kept()
	upto := uint64(0)
	ranks := []uint64{folded, folded + 1}
	for _, p := range l {
		upto += p.N
		ranks = append(ranks, upto-1, upto, upto+1)
	}
	for _, r := range ranks {
		holdAt(t, s, w, min(r, total), total)
	}
}

// shuffled is a list in any order.
func shuffled[T any](dice *rand.Rand, l []T) []T {
	l = slices.Clone(l)
	dice.Shuffle(len(l), func(i, j int) { l[i], l[j] = l[j], l[i] })
	return l
}

// anyValue is a number with a sign that may be added, of any count of bits; often a small one.
func anyValue(dice *rand.Rand) int64 {
	switch dice.Intn(4) {
	case 0:
		return max(int64(dice.Uint64())>>dice.Intn(64), least+1)
	case 1:
		return dice.Int63n(2001) - 1000
	}
	return dice.Int63n(41) - 20
}

// anyValues are values that may be added together; not more than as many.
func anyValues(dice *rand.Rand, many int) []came {
	var l []came
	for range dice.Intn(many + 1) {
		l = append(l, came{anyValue(dice), 1 + dice.Uint64()>>(12+dice.Intn(52))})
	}
	return l
}

// anyAccuracy is one that may be.
func anyAccuracy(dice *rand.Rand) int { return accuracies[dice.Intn(len(accuracies))] }

// accuracies are some of those that may be, both ends among them.
var accuracies = []int{100, 101, 200, 500, 1000, 2500, 3333, 4999, 5000}
