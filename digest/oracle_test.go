package digest_test

import (
	"cmp"
	"fmt"
	"math"
	"math/big"
	"math/rand"
	"slices"
	"testing"

	"theodolite/api"
	"theodolite/digest"
)

const (
	lowest  = math.MinInt64
	highest = math.MaxInt64
	full    = 1 << 48 // the greatest total
)

// model is a digest by the chapter's words.
type model struct {
	d           int
	list, waits []api.Mean
	least, most int64
}

// String is for what fails: not all means are told.
func (w *model) String() string {
	if len(w.all()) > 40 {
		return fmt.Sprintf("%d, %d to %d, %d means and %d", w.d, w.least, w.most, len(w.list), len(w.waits))
	}
	return fmt.Sprintf("%d, %d to %d, %d, %d", w.d, w.least, w.most, w.list, w.waits)
}

// copied is a model that goes on by itself.
func (w *model) copied() *model {
	o := *w
	o.list, o.waits = slices.Clone(w.list), slices.Clone(w.waits)
	return &o
}

// all are all means, the listed ones first.
func (w *model) all() []api.Mean { return append(slices.Clone(w.list), w.waits...) }

// weight is the weight of means together, of any size.
func weight(l []api.Mean) *big.Int {
	sum := new(big.Int)
	for _, m := range l {
		sum.Add(sum, unsigned(m.N))
	}
	return sum
}

// total is the weight of all means.
func (w *model) total() uint64 { return weight(w.all()).Uint64() }

// tooMuch is whether the total would be too great with n more.
func (w *model) tooMuch(n *big.Int) bool {
	return n.Add(n, weight(w.all())).Cmp(big.NewInt(full)) > 0
}

// reach has the ends go out to these, too.
func (w *model) reach(least, most int64) {
	if w.total() == 0 {
		w.least, w.most = least, most
	}
	w.least, w.most = min(w.least, least), max(w.most, most)
}

// add is what P22.2's words make of Add.
func (w *model) add(v int64, n uint64) api.Errno {
	switch {
	case n == 0:
		return api.ErrWeight
	case w.tooMuch(unsigned(n)):
		return api.ErrCap
	}
	w.reach(v, v)
	w.waits = append(w.waits, api.Mean{V: v, N: n})
	if len(w.waits) >= w.d {
		w.press()
	}
	return api.OK
}

// take is what P22.3's words make of Take.
func (w *model) take(o *model) api.Errno {
	switch {
	case o == nil:
		return api.ErrArg
	case o.d != w.d:
		return api.ErrKind
	case w.tooMuch(weight(o.all())):
		return api.ErrCap
	}
	if o.total() > 0 {
		w.reach(o.least, o.most)
		w.waits = append(w.waits, o.all()...)
		w.press()
	}
	return api.OK
}

// press is what the chapter's words make of pressing.
func (w *model) press() {
	all := w.all()
	slices.SortStableFunc(all, func(a, b api.Mean) int { return cmp.Compare(a.V, b.V) })
	w.list, w.waits = nil, nil
	ahead, n := new(big.Int), weight(all)
	for len(all) > 0 {
		current := all[0]
		all = all[1:]
		for len(all) > 0 && w.may(ahead, unsigned(current.N+all[0].N), n) {
			current = together(current, all[0])
			all = all[1:]
		}
		w.list = append(w.list, current)
		ahead.Add(ahead, unsigned(current.N))
	}
}

// may is whether W d n is at most (2 L + W) (2 n - 2 L - W), by L, W and n.
func (w *model) may(ahead, both, n *big.Int) bool {
	front := new(big.Int).Add(ahead, ahead)
	front.Add(front, both)
	back := new(big.Int).Add(n, n)
	back.Sub(back, front)
	asked := new(big.Int).Mul(both, big.NewInt(int64(w.d)))
	return asked.Mul(asked, n).Cmp(front.Mul(front, back)) <= 0
}

// together is what two means are together.
func together(a, b api.Mean) api.Mean {
	return api.Mean{V: average([]api.Mean{a, b}), N: a.N + b.N}
}

// average is the floor of means' mean by their weights.
func average(l []api.Mean) int64 {
	sum := new(big.Int)
	for _, m := range l {
		sum.Add(sum, new(big.Int).Mul(big.NewInt(m.V), unsigned(m.N)))
	}
	return floor(sum, weight(l)).Int64()
}

// floor is the greatest whole number that isn't above a / b; b is above 0.
func floor(a, b *big.Int) *big.Int { return new(big.Int).Div(a, b) }

// unsigned is a number without a sign, of any size.
func unsigned(n uint64) *big.Int { return new(big.Int).SetUint64(n) }

// spot is a number, and where it stands.
type spot struct{ v, at *big.Int }

// tale is a model as it stands, with its points by the chapter's words; none, if there are no means.
type tale struct {
	*model
	points []spot
	twice  *big.Int // the total, twice
}

// tale is the model's tale.
func (w *model) tale() tale {
	at := new(big.Int)
	if len(w.all()) == 0 {
		return tale{w, nil, at}
	}
	o := w.copied()
	o.press()
	l := []spot{{big.NewInt(w.least), new(big.Int)}}
	for _, m := range o.list {
		half := unsigned(m.N)
		at.Add(at, half)
		l = append(l, spot{big.NewInt(m.V), new(big.Int).Set(at)})
		at.Add(at, half)
	}
	return tale{w, append(l, spot{big.NewInt(w.most), at}), at}
}

// at is what P22.5's words make of At.
func (w tale) at(num, den uint64) (int64, api.Errno) {
	switch {
	case den == 0 || num > den:
		return 0, api.ErrQuant
	case len(w.points) == 0:
		return 0, api.ErrEmpty
	}
	at := floor(new(big.Int).Mul(w.twice, unsigned(num)), unsigned(den))
	l := w.points
	for _, p := range slices.Backward(l) {
		if p.at.Cmp(at) == 0 {
			return p.v.Int64(), api.OK
		}
	}
	i := slices.IndexFunc(l, func(p spot) bool { return p.at.Cmp(at) > 0 })
	return way(at, l[i-1].at, l[i].at, l[i-1].v, l[i].v).Int64(), api.OK
}

// way is as far behind from as x is behind low, when high is as far as to; cut off.
func way(x, low, high, from, to *big.Int) *big.Int {
	far := new(big.Int).Mul(new(big.Int).Sub(x, low), new(big.Int).Sub(to, from))
	far = floor(far, new(big.Int).Sub(high, low))
	return far.Add(far, from)
}

// upto is what P22.6's words make of Upto.
func (w tale) upto(v int64) uint64 {
	switch {
	case len(w.points) == 0 || v < w.least:
		return 0
	case v >= w.most:
		return w.total()
	}
	x, last := big.NewInt(v), 0
	for i, p := range w.points {
		if p.v.Cmp(x) <= 0 {
			last = i
		}
	}
	a, b := w.points[last], w.points[last+1]
	at := way(x, a.v, b.v, a.at, b.at)
	return at.Rsh(at, 1).Uint64()
}

// mean is what P22.9's words make of Mean.
func (w *model) mean() (int64, api.Errno) {
	if w.total() == 0 {
		return 0, api.ErrEmpty
	}
	return average(w.all()), api.OK
}

// ends are what P22.4's words make of Ends.
func (w *model) ends() (int64, int64, api.Errno) {
	if w.total() == 0 {
		return 0, 0, api.ErrEmpty
	}
	return w.least, w.most, api.OK
}

// empty is a digest to which nothing came.
func empty(t *testing.T, d int) *digest.Digest {
	t.Helper()
	x, e := digest.New(d)
	if x == nil || e != api.OK {
		t.Fatalf("New(%d): %v, %d", d, x, e)
	}
	return x
}

// made is a digest to which these came one by one, and its model.
func made(t *testing.T, d int, l ...api.Mean) (*digest.Digest, *model) {
	t.Helper()
	x, w := empty(t, d), &model{d: d}
	for _, m := range l {
		wantAdd(t, x, m.V, m.N, api.OK)
		w.add(m.V, m.N)
	}
	return x, w
}

// loaded is the digest that Load makes of a model.
func loaded(t *testing.T, w *model) *digest.Digest {
	t.Helper()
	x, e := digest.Load(w.d, w.least, w.most, w.list, w.waits)
	if x == nil || e != api.OK {
		t.Fatalf("%v: Load: %v, %d", w, x, e)
	}
	return x
}

// wantAdd holds what Add answers against what is wanted.
func wantAdd(t *testing.T, x *digest.Digest, v int64, n uint64, want api.Errno) {
	t.Helper()
	if e := x.Add(v, n); e != want {
		t.Fatalf("Add(%d, %d): %d, not %d", v, n, e, want)
	}
}

// wantTake holds what Take answers against what is wanted.
func wantTake(t *testing.T, x, o *digest.Digest, want api.Errno) {
	t.Helper()
	if e := x.Take(o); e != want {
		t.Fatalf("Take: %d, not %d", e, want)
	}
}

// hold holds what a digest keeps against the model (P22.1, P22.4, P22.9).
func hold(t *testing.T, x *digest.Digest, w *model) {
	t.Helper()
	if l, o := x.List(), x.Waits(); !slices.Equal(l, w.list) || !slices.Equal(o, w.waits) {
		t.Fatalf("%v: List: %d, Waits: %d", w, l, o)
	}
	if d, n := x.Fineness(), x.Total(); d != w.d || n != w.total() {
		t.Fatalf("%v: Fineness: %d, Total: %d", w, d, n)
	}
	least, most, err := w.ends()
	if a, b, e := x.Ends(); a != least || b != most || e != err {
		t.Fatalf("%v: Ends: %d, %d, %d", w, a, b, e)
	}
	v, err := w.mean()
	if m, e := x.Mean(); m != v || e != err {
		t.Fatalf("%v: Mean: %d, %d, not %d, %d", w, m, e, v, err)
	}
}

// holdAt holds what At tells of a part against the model (P22.5).
func holdAt(t *testing.T, x *digest.Digest, w tale, num, den uint64) {
	t.Helper()
	want, err := w.at(num, den)
	if v, e := x.At(num, den); v != want || e != err {
		t.Fatalf("%v: At(%d, %d): %d, %d, not %d, %d", w.model, num, den, v, e, want, err)
	}
}

// holdUpto holds what Upto tells of a value against the model (P22.6).
func holdUpto(t *testing.T, x *digest.Digest, w tale, v int64) {
	t.Helper()
	if n, want := x.Upto(v), w.upto(v); n != want {
		t.Fatalf("%v: Upto(%d): %d, not %d", w.model, v, n, want)
	}
}

// parts are some fractions, of which a few are no parts.
var parts = [][2]uint64{
	{0, 1}, {0, math.MaxUint64}, {1, 1}, {math.MaxUint64, math.MaxUint64}, {1, 2}, {1, 3}, {2, 3}, {99, 100}, {1, 1000},
	{1, math.MaxUint64}, {math.MaxUint64 - 1, math.MaxUint64}, {0, 0}, {1, 0}, {2, 1}, {math.MaxUint64, math.MaxUint64 - 1},
}

// holdAll holds all that a digest tells against the model, about each of its points; it stays as it is.
func holdAll(t *testing.T, x *digest.Digest, w *model) {
	t.Helper()
	hold(t, x, w)
	told := w.tale()
	for _, p := range parts {
		holdAt(t, x, told, p[0], p[1])
	}
	values := []int64{lowest, lowest + 1, -1, 0, 1, highest - 1, highest}
	for _, v := range []int64{w.least, w.most} {
		values = append(values, max(v, lowest+1)-1, v, min(v, highest-1)+1)
	}
	last := spot{big.NewInt(w.least), new(big.Int)}
	for _, p := range told.points {
		a, b := last.at.Uint64(), p.at.Uint64()
		for _, at := range []uint64{a, a + 1, (a + b) / 2, b} {
			holdAt(t, x, told, at, told.twice.Uint64())
		}
		from, to := last.v.Int64(), p.v.Int64()
		values = append(values, from, from/2+to/2, max(to, lowest+1)-1)
		last = p
	}
	for _, v := range values {
		holdUpto(t, x, told, v)
	}
	hold(t, x, w)
}

// anyValue is a number with a sign, of any count of bits; often a small one.
func anyValue(dice *rand.Rand) int64 {
	switch dice.Intn(5) {
	case 0:
		return int64(dice.Uint64()) >> dice.Intn(64)
	case 1:
		return dice.Int63n(2001) - 1000
	}
	return dice.Int63n(41) - 20
}

// anyWeight is one that may be, of any count of bits; often 1.
func anyWeight(dice *rand.Rand) uint64 {
	switch dice.Intn(4) {
	case 0:
		return 1 + dice.Uint64()>>(24+dice.Intn(40))
	case 1:
		return 1 + uint64(dice.Intn(20))
	}
	return 1
}

// anyMeans are means that may be together with as many others; as many at most.
func anyMeans(dice *rand.Rand, many int) []api.Mean {
	var l []api.Mean
	for range dice.Intn(many + 1) {
		l = append(l, api.Mean{V: anyValue(dice), N: anyWeight(dice)})
	}
	return l
}

// anyFineness is one that may be, often a small one.
func anyFineness(dice *rand.Rand) int {
	return []int{10, 10, 11, 12, 17, 25, 100, 1000}[dice.Intn(8)]
}

// anyModel is a model that may be loaded: its list need not be what pressing makes, nor its ends the means' own.
func anyModel(dice *rand.Rand, d, many int) *model {
	w := &model{d: d, list: anyMeans(dice, many), waits: anyMeans(dice, d-1)}
	slices.SortFunc(w.list, func(a, b api.Mean) int { return cmp.Compare(a.V, b.V) })
	for i, m := range w.all() {
		if i == 0 {
			w.least, w.most = m.V, m.V
		}
		w.least, w.most = min(w.least, m.V), max(w.most, m.V)
	}
	if len(w.all()) > 0 && dice.Intn(2) == 0 {
		w.least = max(w.least, lowest+99) - dice.Int63n(100)
		w.most = min(w.most, highest-99) + dice.Int63n(100)
	}
	return w
}
