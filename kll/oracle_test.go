package kll_test

import (
	"fmt"
	"math"
	"math/big"
	"math/rand"
	"slices"
	"sort"
	"testing"

	"theodolite/api"
	"theodolite/kll"
)

const (
	lowest  = math.MinInt64
	highest = math.MaxInt64
	full    = 1 << 48 // the greatest total
	deepest = 1 << 62 // the greatest ledger
)

// tosses are coins by the chapter's words: bits that were not tossed yet.
type tosses []int

// bitsOf are the bits of bytes: the bit k is the bit k mod 8 of the byte k / 8.
func bitsOf(b []byte) tosses {
	var l tosses
	for k := range 8 * len(b) {
		l = append(l, int(b[k/8])>>(k%8)&1)
	}
	return l
}

// next is the next one, 0 behind the last one.
func (l *tosses) next() int {
	if len(*l) == 0 {
		return 0
	}
	first := (*l)[0]
	*l = (*l)[1:]
	return first
}

// model is a stack by the chapter's words.
type model struct {
	k      int
	levels [][]int64
	ledger uint64
}

// String is for what fails: not all values are told.
func (w *model) String() string {
	if w.kept() > 60 {
		var many []int
		for _, l := range w.levels {
			many = append(many, len(l))
		}
		return fmt.Sprintf("%d, levels of %d, %d", w.k, many, w.ledger)
	}
	return fmt.Sprintf("%d, %d, %d", w.k, w.levels, w.ledger)
}

// copied is a model that goes on by itself.
func (w *model) copied() *model {
	o := &model{k: w.k, ledger: w.ledger}
	for _, l := range w.levels {
		o.levels = append(o.levels, slices.Clone(l))
	}
	return o
}

// kept is how many values there are.
func (w *model) kept() int { return len(slices.Concat(w.levels...)) }

// weight is the weight of all values that some ask for, of any size.
func (w *model) weight(asked func(v int64) bool) *big.Int {
	sum := new(big.Int)
	for h, l := range w.levels {
		many := int64(0)
		for _, v := range l {
			if asked(v) {
				many++
			}
		}
		sum.Add(sum, new(big.Int).Lsh(big.NewInt(many), uint(h)))
	}
	return sum
}

// all is the weight of all values.
func (w *model) all() *big.Int { return w.weight(func(int64) bool { return true }) }

// total is likewise, where it has room.
func (w *model) total() uint64 { return w.all().Uint64() }

// less is the weight of all values that are less than v.
func (w *model) less(v int64) uint64 {
	return w.weight(func(o int64) bool { return o < v }).Uint64()
}

// upto is the weight of all values that aren't greater than v.
func (w *model) upto(v int64) uint64 {
	return w.weight(func(o int64) bool { return !(o > v) }).Uint64()
}

// room is what the chapter's words make of a level's room.
func (w *model) room(h int) int {
	if h < 0 || h >= len(w.levels) {
		return 0
	}
	c := w.k
	for range len(w.levels) - 1 - h {
		next := 0
		for 3*next < 2*c {
			next++
		}
		c = next
	}
	return max(c, 2)
}

// level has a level come to be, and those below it.
func (w *model) level(h int) {
	for h >= len(w.levels) {
		w.levels = append(w.levels, []int64{})
	}
}

// put puts a value to a level.
func (w *model) put(h int, v int64) {
	w.level(h)
	w.levels[h] = append(w.levels[h], v)
	slices.Sort(w.levels[h])
}

// tooMuch is whether the total would be too great with n more.
func (w *model) tooMuch(n *big.Int) bool {
	return new(big.Int).Add(n, w.all()).Cmp(big.NewInt(full)) > 0
}

// add is what P24.3's words make of Add.
func (w *model) add(v int64, n uint64, c *tosses) api.Errno {
	switch {
	case n == 0:
		return api.ErrWeight
	case w.tooMuch(new(big.Int).SetUint64(n)):
		return api.ErrCap
	}
	for h := range 64 {
		if n&(1<<h) != 0 {
			w.put(h, v)
		}
	}
	w.pack(c)
	return api.OK
}

// take is what P24.4's words make of Take.
func (w *model) take(o *model, c *tosses) api.Errno {
	switch {
	case o == nil:
		return api.ErrArg
	case o.k != w.k:
		return api.ErrKind
	case w.tooMuch(o.all()):
		return api.ErrCap
	}
	for h, l := range o.copied().levels {
		w.level(h)
		w.levels[h] = append(w.levels[h], l...)
		slices.Sort(w.levels[h])
	}
	w.owe(o.ledger)
	w.pack(c)
	return api.OK
}

// owe has the ledger be more.
func (w *model) owe(n uint64) {
	w.ledger += n // both are 2^62 at most
	if w.ledger > deepest {
		w.ledger = deepest
	}
}

// crowded is the least level that has more values than room.
func (w *model) crowded() (int, bool) {
	for h, l := range w.levels {
		if len(l) > w.room(h) {
			return h, true
		}
	}
	return 0, false
}

// pack is what the chapter's words make of packing.
func (w *model) pack(c *tosses) {
	for {
		h, ok := w.crowded()
		if !ok {
			return
		}
		l, stays := w.levels[h], []int64{}
		if len(l)%2 == 1 {
			stays = append(stays, slices.Max(l))
			l = l[:len(l)-1]
		}
		coin := c.next()
		w.levels[h] = stays
		w.level(h + 1)
		for two := range slices.Chunk(l, 2) {
			w.put(h+1, []int64{min(two[0], two[1]), max(two[0], two[1])}[coin])
		}
		w.owe(uint64(math.Exp2(float64(h))))
	}
}

// rankOf is the rank of a part among n things: the least that isn't below num n / den, but at least 1.
func rankOf(num, den, n uint64) uint64 {
	q, left := new(big.Int), new(big.Int)
	q.Mul(new(big.Int).SetUint64(num), new(big.Int).SetUint64(n))
	q.QuoRem(q, new(big.Int).SetUint64(den), left)
	if left.Sign() > 0 {
		q.Add(q, big.NewInt(1))
	}
	return max(q.Uint64(), 1)
}

// at is what P24.6's words make of At.
func (w *model) at(num, den uint64) (int64, uint64, api.Errno) {
	switch {
	case den == 0 || num > den:
		return 0, 0, api.ErrQuant
	case w.kept() == 0:
		return 0, 0, api.ErrEmpty
	}
	rank, values := rankOf(num, den, w.total()), w.values()
	i := sort.Search(len(values), func(i int) bool { return w.upto(values[i]) >= rank })
	return values[i], w.ledger, api.OK
}

// values are all values that are kept, by size, each once.
func (w *model) values() []int64 {
	l := slices.Concat(w.levels...)
	slices.Sort(l)
	return slices.Compact(l)
}

// mean is what P24.9's words make of Mean.
func (w *model) mean() (int64, api.Errno) {
	if w.kept() == 0 {
		return 0, api.ErrEmpty
	}
	sum := new(big.Int)
	for h, l := range w.levels {
		for _, v := range l {
			sum.Add(sum, new(big.Int).Lsh(big.NewInt(v), uint(h)))
		}
	}
	return sum.Div(sum, w.all()).Int64(), api.OK
}

// empty is a stack to which nothing came.
func empty(t *testing.T, k int) *kll.Stack {
	t.Helper()
	s, e := kll.New(k)
	if s == nil || e != api.OK {
		t.Fatalf("New(%d): %v, %d", k, s, e)
	}
	return s
}

// loaded is the stack that Load makes of a model.
func loaded(t *testing.T, w *model) *kll.Stack {
	t.Helper()
	s, e := kll.Load(w.k, w.levels, w.ledger)
	if s == nil || e != api.OK {
		t.Fatalf("%v: Load: %v, %d", w, s, e)
	}
	return s
}

// item is a value that comes so often.
type item struct {
	v int64
	n uint64
}

// ones are values from one on, each by so much more than the one ahead, once each.
func ones(from, by int64, many int) []item {
	var l []item
	for i := range many {
		l = append(l, item{from + by*int64(i), 1})
	}
	return l
}

// row are values from one on, each by so much more than the one ahead.
func row(from, by int64, many int) []int64 {
	var l []int64
	for i := range many {
		l = append(l, from+by*int64(i))
	}
	return l
}

// made is a stack to which these came one by one, with the coins 0, and its model.
func made(t *testing.T, k int, l ...item) (*kll.Stack, *model) {
	t.Helper()
	s, w := empty(t, k), &model{k: k}
	for _, i := range l {
		wantAdd(t, s, i.v, i.n, nil, w.add(i.v, i.n, &tosses{}))
	}
	return s, w
}

// wantAdd holds what Add answers against what is wanted.
func wantAdd(t *testing.T, s *kll.Stack, v int64, n uint64, c *kll.Coins, want api.Errno) {
	t.Helper()
	if e := s.Add(v, n, c); e != want {
		t.Fatalf("Add(%d, %d): %d, not %d", v, n, e, want)
	}
}

// wantTake holds what Take answers against what is wanted.
func wantTake(t *testing.T, s, o *kll.Stack, c *kll.Coins, want api.Errno) {
	t.Helper()
	if e := s.Take(o, c); e != want {
		t.Fatalf("Take: %d, not %d", e, want)
	}
}

// wantCoins holds which coins are left against the model's.
func wantCoins(t *testing.T, c *kll.Coins, l tosses) {
	t.Helper()
	if n := c.Left(); n != len(l) {
		t.Fatalf("%d coins are left, not %d", n, len(l))
	}
}

// hold holds what a stack keeps against the model (P24.2, P24.5, P24.9).
func hold(t *testing.T, s *kll.Stack, w *model) {
	t.Helper()
	if l := s.Levels(); !slices.EqualFunc(l, w.levels, slices.Equal) {
		t.Fatalf("%v: Levels: %d", w, l)
	}
	if k, n, e := s.Size(), s.Total(), s.Ledger(); k != w.k || n != w.total() || e != w.ledger {
		t.Fatalf("%v: Size: %d, Total: %d, Ledger: %d", w, k, n, e)
	}
	if n := s.Kept(); n != w.kept() {
		t.Fatalf("%v: Kept: %d", w, n)
	}
	for h := -1; h <= len(w.levels); h++ {
		if n := s.Room(h); n != w.room(h) {
			t.Fatalf("%v: Room(%d): %d, not %d", w, h, n, w.room(h))
		}
	}
	want, err := w.mean()
	if v, e := s.Mean(); v != want || e != err {
		t.Fatalf("%v: Mean: %d, %d, not %d, %d", w, v, e, want, err)
	}
}

// holdAt holds what At tells of a part against the model (P24.6).
func holdAt(t *testing.T, s *kll.Stack, w *model, num, den uint64) {
	t.Helper()
	want, ledger, err := w.at(num, den)
	if v, o, e := s.At(num, den); v != want || o != ledger || e != err {
		t.Fatalf("%v: At(%d, %d): %d, %d, %d, not %d, %d, %d", w, num, den, v, o, e, want, ledger, err)
	}
}

// holdBetween holds what Between tells of a value against the model (P24.6).
func holdBetween(t *testing.T, s *kll.Stack, w *model, v int64) {
	t.Helper()
	if less, upto := s.Between(v); less != w.less(v) || upto != w.upto(v) {
		t.Fatalf("%v: Between(%d): %d, %d, not %d, %d", w, v, less, upto, w.less(v), w.upto(v))
	}
}

// parts are some fractions, of which a few are no parts.
var parts = [][2]uint64{
	{0, 1}, {0, math.MaxUint64}, {1, 1}, {math.MaxUint64, math.MaxUint64}, {1, 2}, {1, 3}, {2, 3}, {99, 100}, {1, 1000},
	{1, math.MaxUint64}, {math.MaxUint64 - 1, math.MaxUint64}, {0, 0}, {1, 0}, {2, 1}, {math.MaxUint64, math.MaxUint64 - 1},
}

// holdAll holds all that a stack tells against the model, about each of its values (of very many about some); it stays as it is.
func holdAll(t *testing.T, s *kll.Stack, w *model) {
	t.Helper()
	hold(t, s, w)
	for _, p := range parts {
		holdAt(t, s, w, p[0], p[1])
	}
	for _, v := range []int64{lowest, lowest + 1, -1, 0, 1, highest - 1, highest} {
		holdBetween(t, s, w, v)
	}
	all, values := w.total(), w.values()
	for i := 0; i < len(values); i += 1 + len(values)/200 {
		v := values[i]
		for _, o := range []int64{max(v, lowest+1) - 1, v, min(v, highest-1) + 1} {
			holdBetween(t, s, w, o)
		}
		for _, rank := range []uint64{w.less(v), w.less(v) + 1, w.upto(v)} {
			holdAt(t, s, w, rank, all)
		}
	}
	hold(t, s, w)
}

// anyValue is a number with a sign, of any count of bits; often a small one.
func anyValue(dice *rand.Rand) int64 {
	switch dice.Intn(5) {
	case 0:
		return int64(dice.Uint64()) >> dice.Intn(64)
	case 1:
		return dice.Int63n(2001) - 1000
	}
	return dice.Int63n(41) - 20
}

// anyWeight is one that may be, of any count of bits; often 1.
func anyWeight(dice *rand.Rand) uint64 {
	switch dice.Intn(6) {
	case 0:
		return 1 + dice.Uint64()>>(26+dice.Intn(38))
	case 1:
		return 1 + uint64(dice.Intn(20))
	}
	return 1
}

// anySize is one that may be, often a small one.
func anySize(dice *rand.Rand) int {
	return []int{8, 8, 8, 9, 10, 11, 12, 13, 20, 50}[dice.Intn(10)]
}

// anyCoins are coins, and the model's, of few bytes.
func anyCoins(dice *rand.Rand) (*kll.Coins, *tosses) {
	b := make([]byte, dice.Intn(4))
	dice.Read(b)
	l := bitsOf(b)
	return kll.NewCoins(b), &l
}

// anyStack is a stack to which some came, with any coins, and its model.
func anyStack(t *testing.T, dice *rand.Rand, k, many int) (*kll.Stack, *model) {
	t.Helper()
	s, w := empty(t, k), &model{k: k}
	for range dice.Intn(many + 1) {
		v, n := anyValue(dice), anyWeight(dice)
		c, l := anyCoins(dice)
		wantAdd(t, s, v, n, c, w.add(v, n, l))
	}
	return s, w
}

// anyModel is a model that may be loaded: by any values that have room, and any ledger.
func anyModel(dice *rand.Rand, k, high int) *model {
	w := &model{k: k}
	w.level(dice.Intn(high))
	for h := range w.levels {
		for range dice.Intn(w.room(h) + 1) {
			w.put(h, anyValue(dice))
		}
	}
	top := len(w.levels) - 1
	if len(w.levels[top]) == 0 {
		w.put(top, anyValue(dice))
	}
	w.ledger = dice.Uint64() >> (2 + dice.Intn(62))
	return w
}
