package hdr_test

import (
	"fmt"
	"math"
	"math/big"
	"math/rand"
	"slices"
	"testing"

	"theodolite/api"
	"theodolite/hdr"
)

const (
	last = math.MaxInt64
	most = 1 << 62 // the greatest total
)

// came is a value that was recorded, and how often.
type came struct {
	v int64
	n uint64
}

// model is a histogram by the chapter's words: the values that came, all that is told of them being counted anew.
type model struct {
	shape   api.Hdr
	grows   bool
	u, m    int // unit and magnitude
	buckets int
	all     []came
}

// modelOf is a histogram of a shape that may be, powers of two being tried one by one.
func modelOf(h api.Hdr, grows bool) *model {
	w := &model{shape: h, grows: grows}
	for int64(2)<<w.u <= h.Lowest {
		w.u++
	}
	apart := int64(2)
	for range h.Digits {
		apart *= 10
	}
	for int64(1)<<w.m < apart {
		w.m++
	}
	w.buckets = w.needed(h.Highest)
	return w
}

// bucket is the least b such that v is less than 2^(u + m + b).
func (w *model) bucket(v int64) int {
	b := 0
	for uint64(v) >= uint64(1)<<(w.u+w.m+b) {
		b++
	}
	return b
}

// String is for what fails: not all that came is told.
func (w *model) String() string {
	if len(w.all) > 30 {
		return fmt.Sprintf("%d, %t, %d values", w.shape, w.grows, len(w.all))
	}
	return fmt.Sprintf("%d, %t, %d", w.shape, w.grows, w.all)
}

// needed is how many buckets v needs.
func (w *model) needed(v int64) int { return w.bucket(v) + 1 }

// size is how many values v's cell has.
func (w *model) size(v int64) int64 { return int64(1) << (w.u + w.bucket(v)) }

func (w *model) low(v int64) int64  { return v - v%w.size(v) }
func (w *model) high(v int64) int64 { return w.low(v) + (w.size(v) - 1) }

// index is the index of v's cell.
func (w *model) index(v int64) int {
	half := 1 << (w.m - 1)
	return (w.bucket(v)+1)*half + int(v/w.size(v)) - half
}

// top is the greatest value of the cells of n buckets.
func (w *model) top(n int) int64 { return int64(uint64(1)<<(w.u+w.m+n-1) - 1) }

// reach is what P18.1's words make of Reach.
func (w *model) reach() int64 {
	if w.buckets == w.needed(w.shape.Highest) {
		return w.shape.Highest
	}
	return w.top(w.buckets)
}

// sum is how much came of which it holds.
func (w *model) sum(holds func(v int64) bool) uint64 {
	all := uint64(0)
	for _, c := range w.all {
		if holds(c.v) {
			all += c.n
		}
	}
	return all
}

func (w *model) total() uint64 { return w.sum(func(int64) bool { return true }) }

// fits is the error of a total that is more than may be, by n for each of so many values.
func (w *model) fits(n uint64, values int64) api.Errno {
	all := new(big.Int).Mul(num(n), big.NewInt(values))
	if all.Add(all, num(w.total())).Cmp(num(most)) > 0 {
		return api.ErrCap
	}
	return api.OK
}

// refuses is what P18.2's words say of an error.
func (w *model) refuses(v int64, n uint64) api.Errno {
	switch {
	case n == 0:
		return api.ErrWeight
	case v < 0 || !w.grows && v > w.top(w.buckets):
		return api.ErrRange
	}
	return w.fits(n, 1)
}

// record is what P18.2's words make of Record.
func (w *model) record(v int64, n uint64) api.Errno {
	e := w.refuses(v, n)
	if e == api.OK {
		w.all = append(w.all, came{v, n})
		w.buckets = max(w.buckets, w.needed(v))
	}
	return e
}

// correct is what P18.3's words make of Correct: values are gathered one by one.
func (w *model) correct(v int64, n uint64, every int64) api.Errno {
	values := []int64{v}
	for v >= 0 && every >= 1 && values[len(values)-1]-every >= every {
		if len(values) > 4096 {
			return api.ErrArg
		}
		values = append(values, values[len(values)-1]-every)
	}
	if e := w.refuses(v, n); e != api.OK {
		return e
	}
	if e := w.fits(n, int64(len(values))); e != api.OK {
		return e
	}
	for _, v := range values {
		w.record(v, n)
	}
	return api.OK
}

// take is what P18.4's words make of Take.
func (w *model) take(g *model) api.Errno {
	if w.shape != g.shape || w.grows != g.grows {
		return api.ErrKind
	}
	if e := w.fits(g.total(), 1); e != api.OK {
		return e
	}
	w.all = append(w.all, slices.Clone(g.all)...)
	w.buckets = max(w.buckets, g.buckets)
	return api.OK
}

// count is what P18.5's words make of Count.
func (w *model) count(v int64) uint64 {
	return w.sum(func(other int64) bool { return v >= 0 && w.low(other) == w.low(v) })
}

// between is what P18.5's words make of Between.
func (w *model) between(v, x int64) uint64 {
	if x < v {
		return 0
	}
	low, high := w.low(max(v, 0)), w.high(max(x, 0))
	return w.sum(func(other int64) bool { return low <= other && other <= high })
}

// pairs is what P18.7's words make of Pairs.
func (w *model) pairs() []api.Pair {
	counts := map[int]uint64{}
	for _, c := range w.all {
		counts[w.index(c.v)] += c.n
	}
	var l []api.Pair
	for i, n := range counts {
		l = append(l, api.Pair{Key: i, N: n})
	}
	slices.SortFunc(l, func(p, q api.Pair) int { return p.Key - q.Key })
	return l
}

// ranked is the value of a part's rank among all that came: the least whole number that isn't below num total / den, but at least 1.
func (w *model) ranked(n, den uint64) (int64, api.Errno) {
	switch {
	case den == 0 || n > den:
		return 0, api.ErrQuant
	case len(w.all) == 0:
		return 0, api.ErrEmpty
	}
	at, left := new(big.Int).Mul(num(n), num(w.total())), new(big.Int)
	at.QuoRem(at, num(den), left)
	r := at.Uint64()
	if left.Sign() > 0 || r == 0 {
		r++
	}
	row := slices.Clone(w.all)
	slices.SortFunc(row, func(c, d came) int { return big.NewInt(c.v).Cmp(big.NewInt(d.v)) })
	for _, c := range row {
		if r <= c.n {
			return c.v, api.OK
		}
		r -= c.n
	}
	panic("a rank above the total")
}

// at is what P18.6's words make of At.
func (w *model) at(n, den uint64) (int64, api.Errno) {
	v, e := w.ranked(n, den)
	if e != api.OK {
		return 0, e
	}
	return w.high(v), api.OK
}

// share is what P18.6's words make of Share.
func (w *model) share(v int64) (uint64, uint64, api.Errno) {
	if len(w.all) == 0 {
		return 0, 0, api.ErrEmpty
	}
	p := new(big.Rat).SetFrac(num(w.between(0, v)), num(w.total()))
	return p.Num().Uint64(), p.Denom().Uint64(), api.OK
}

// ends is what P18.5's words make of Least and Most.
func (w *model) ends() (int64, int64, api.Errno) {
	if len(w.all) == 0 {
		return 0, 0, api.ErrEmpty
	}
	least, greatest := w.all[0].v, w.all[0].v
	for _, c := range w.all {
		least, greatest = min(least, c.v), max(greatest, c.v)
	}
	return w.low(least), w.high(greatest), api.OK
}

// mean is what P18.10's words make of Mean.
func (w *model) mean() (int64, api.Errno) {
	if len(w.all) == 0 {
		return 0, api.ErrEmpty
	}
	sum := new(big.Int)
	for _, c := range w.all {
		middle := big.NewInt(w.low(c.v) + w.size(c.v)/2)
		sum.Add(sum, middle.Mul(middle, num(c.n)))
	}
	return sum.Div(sum, num(w.total())).Int64(), api.OK
}

// steps is what P18.9's words make of steps up to what to tells for 0, 1 and so on.
func (w *model) steps(to func(k int) int64) []hdr.Step {
	var l []hdr.Step
	ahead := uint64(0)
	for k := 0; ahead < w.total(); k++ {
		upto := w.between(0, to(k))
		l = append(l, hdr.Step{To: to(k), Count: upto - ahead, Upto: upto})
		ahead = upto
	}
	return l
}

// linear is what P18.9's words make of Linear.
func (w *model) linear(width int64) ([]hdr.Step, api.Errno) {
	if width < 1 {
		return nil, api.ErrArg
	}
	if _, high, e := w.ends(); e == api.OK && big.NewInt(w.low(high)).Cmp(times(width, 4096)) >= 0 {
		return nil, api.ErrArg
	}
	return w.steps(func(k int) int64 { return less(times(width, int64(k)+1)) }), api.OK
}

// doubling is what P18.9's words make of Doubling.
func (w *model) doubling(first, base int64) ([]hdr.Step, api.Errno) {
	if first < 1 || base < 2 || base > 2147483648 {
		return nil, api.ErrArg
	}
	return w.steps(func(k int) int64 {
		end := new(big.Int).Exp(big.NewInt(base), big.NewInt(int64(k)), nil)
		return less(end.Mul(end, big.NewInt(first)))
	}), api.OK
}

// halves is what P18.9's words make of Halves.
func (w *model) halves(ticks int) ([]hdr.Step, api.Errno) {
	switch {
	case ticks < 1 || ticks > 64:
		return nil, api.ErrArg
	case w.total() > 1<<50:
		return nil, api.ErrCap
	}
	return w.steps(func(k int) int64 {
		h, t := k/ticks, k%ticks
		part := big.NewRat(1<<h-1, 1<<h)
		part.Add(part, big.NewRat(int64(t), int64(ticks)<<(h+1)))
		to, _ := w.at(part.Num().Uint64(), part.Denom().Uint64())
		return to
	}), api.OK
}

// less is one less than n, but at most the greatest value.
func less(n *big.Int) int64 {
	n.Sub(n, big.NewInt(1))
	if !n.IsInt64() {
		return last
	}
	return n.Int64()
}

func times(a, b int64) *big.Int { return new(big.Int).Mul(big.NewInt(a), big.NewInt(b)) }
func num(n uint64) *big.Int     { return new(big.Int).SetUint64(n) }

// made is the empty histogram of a shape that may be, and its model.
func made(t *testing.T, h api.Hdr, grows bool) (*hdr.Hist, *model) {
	t.Helper()
	x, e := hdr.New(h, grows)
	if x == nil || e != api.OK {
		t.Fatalf("New(%d, %t): %v, %d", h, grows, x, e)
	}
	return x, modelOf(h, grows)
}

// filled is the histogram to which these values came, and its model.
func filled(t *testing.T, h api.Hdr, grows bool, l ...came) (*hdr.Hist, *model) {
	t.Helper()
	x, w := made(t, h, grows)
	for _, c := range l {
		record(t, x, w, c.v, c.n)
	}
	return x, w
}

// record holds Record against the model's.
func record(t *testing.T, x *hdr.Hist, w *model, v int64, n uint64) {
	t.Helper()
	want := w.record(v, n)
	if e := x.Record(v, n); e != want {
		t.Fatalf("%v: Record(%d, %d): %d, not %d", w, v, n, e, want)
	}
}

// correct holds Correct against the model's.
func correct(t *testing.T, x *hdr.Hist, w *model, v int64, n uint64, every int64) {
	t.Helper()
	want := w.correct(v, n, every)
	if e := x.Correct(v, n, every); e != want {
		t.Fatalf("%v: Correct(%d, %d, %d): %d, not %d", w, v, n, every, e, want)
	}
}

// take holds Take against the model's.
func take(t *testing.T, x *hdr.Hist, w *model, g *hdr.Hist, of *model) {
	t.Helper()
	want := w.take(of)
	if e := x.Take(g); e != want {
		t.Fatalf("%v: Take of %v: %d, not %d", w, of, e, want)
	}
}

// hold holds what a histogram tells of its whole against the model.
func hold(t *testing.T, x *hdr.Hist, w *model) {
	t.Helper()
	if h, grows := x.Shape(), x.Grows(); h != w.shape || grows != w.grows {
		t.Fatalf("%v: Shape: %d; Grows: %t", w, h, grows)
	}
	if n, v := x.Buckets(), x.Reach(); n != w.buckets || v != w.reach() {
		t.Fatalf("%v: Buckets: %d, not %d; Reach: %d, not %d", w, n, w.buckets, v, w.reach())
	}
	if n := x.Total(); n != w.total() {
		t.Fatalf("%v: Total: %d, not %d", w, n, w.total())
	}
	if l := x.Pairs(); !slices.Equal(l, w.pairs()) {
		t.Fatalf("%v: Pairs: %d, not %d", w, l, w.pairs())
	}
	wantLeast, wantMost, want := w.ends()
	v, e := x.Least()
	g, f := x.Most()
	if v != wantLeast || g != wantMost || e != want || f != want {
		t.Fatalf("%v: Least: %d, %d, Most: %d, %d, not %d, %d, %d", w, v, e, g, f, wantLeast, wantMost, want)
	}
	wantMean, want := w.mean()
	if v, e := x.Mean(); v != wantMean || e != want {
		t.Fatalf("%v: Mean: %d, %d, not %d, %d", w, v, e, wantMean, want)
	}
}

// holdValue holds what a histogram tells of v, and of v and other, against the model.
func holdValue(t *testing.T, x *hdr.Hist, w *model, v, other int64) {
	t.Helper()
	if n := x.Count(v); n != w.count(v) {
		t.Fatalf("%v: Count(%d): %d, not %d", w, v, n, w.count(v))
	}
	if n := x.Between(v, other); n != w.between(v, other) {
		t.Fatalf("%v: Between(%d, %d): %d, not %d", w, v, other, n, w.between(v, other))
	}
	wantNum, wantDen, want := w.share(v)
	if n, den, e := x.Share(v); n != wantNum || den != wantDen || e != want {
		t.Fatalf("%v: Share(%d): %d, %d, %d, not %d, %d, %d", w, v, n, den, e, wantNum, wantDen, want)
	}
}

// holdPart holds At of a part against the model, and against P18.8's bound.
func holdPart(t *testing.T, x *hdr.Hist, w *model, n, den uint64) {
	t.Helper()
	want, f := w.at(n, den)
	v, e := x.At(n, den)
	if v != want || e != f {
		t.Fatalf("%v: At(%d, %d): %d, %d, not %d, %d", w, n, den, v, e, want, f)
	}
	if e != api.OK {
		return
	}
	of, _ := w.ranked(n, den)
	apart := int64(math.Pow10(w.shape.Digits))
	off, room := times(v-of, apart), times(int64(1)<<w.u, apart)
	if v < of || off.Cmp(big.NewInt(of)) >= 0 && off.Cmp(room) >= 0 {
		t.Fatalf("%v: At(%d, %d): %d is far from %d", w, n, den, v, of)
	}
}

// holdSteps holds what was told of steps against the model.
func holdSteps(t *testing.T, w *model, name string, of any, l []hdr.Step, e api.Errno, want []hdr.Step, f api.Errno) {
	t.Helper()
	if !slices.Equal(l, want) || e != f {
		t.Fatalf("%v: %s%d: %d, %d, not %d, %d", w, name, of, l, e, want, f)
	}
}

func holdLinear(t *testing.T, x *hdr.Hist, w *model, width int64) {
	t.Helper()
	l, e := x.Linear(width)
	want, f := w.linear(width)
	holdSteps(t, w, "Linear", []int64{width}, l, e, want, f)
}

func holdDoubling(t *testing.T, x *hdr.Hist, w *model, first, base int64) {
	t.Helper()
	l, e := x.Doubling(first, base)
	want, f := w.doubling(first, base)
	holdSteps(t, w, "Doubling", []int64{first, base}, l, e, want, f)
}

func holdHalves(t *testing.T, x *hdr.Hist, w *model, ticks int) {
	t.Helper()
	l, e := x.Halves(ticks)
	want, f := w.halves(ticks)
	holdSteps(t, w, "Halves", []int{ticks}, l, e, want, f)
}

// anyShape is a shape that may be.
func anyShape(dice *rand.Rand) api.Hdr {
	digits := 1 + dice.Intn(5)
	bits := 63 - modelOf(api.Hdr{Lowest: 1, Highest: 2, Digits: digits}, false).m // of the greatest Lowest
	lowest := min(1+dice.Int63n(int64(1)<<dice.Intn(bits+1)), int64(1)<<bits-1)
	more := dice.Int63n(last-2*lowest+1) >> dice.Intn(63)
	return api.Hdr{Lowest: lowest, Highest: 2*lowest + more, Digits: digits}
}

// anyValue is a value up to top, of any count of bits, or near one end of v's cell.
func anyValue(dice *rand.Rand, w *model, v, top int64) int64 {
	switch dice.Intn(4) {
	case 0:
		v = w.low(v) - dice.Int63n(2)
	case 1:
		v = w.high(v) - 1 + dice.Int63n(2)
	default:
		v = int64(dice.Uint64()>>1) >> dice.Intn(64)
	}
	return min(max(v, 0), top)
}

// anyPart is a part that may be, or, seldom, not.
func anyPart(dice *rand.Rand) (uint64, uint64) {
	den := dice.Uint64()>>dice.Intn(64) | 1
	switch dice.Intn(8) {
	case 0:
		return 0, den
	case 1:
		return den, den
	case 2:
		return dice.Uint64() >> dice.Intn(64), dice.Uint64() >> dice.Intn(64)
	}
	return dice.Uint64() % den, den
}
