package tdwire_test

import (
	"bytes"
	"cmp"
	"encoding/binary"
	"fmt"
	"math"
	"math/big"
	"math/rand"
	"slices"
	"testing"

	"theodolite/api"
	"theodolite/digest"
	"theodolite/tdwire"
)

const (
	lowest  = math.MinInt64
	highest = math.MaxInt64
	full    = 1 << 48 // the greatest total
)

// model is a digest by the chapters' words.
type model struct {
	d           int
	least, most int64
	list, waits []api.Mean
}

// String is for what fails: not all means are told.
func (w *model) String() string {
	if len(w.all()) > 40 {
		return fmt.Sprintf("%d, %d to %d, %d means and %d", w.d, w.least, w.most, len(w.list), len(w.waits))
	}
	return fmt.Sprintf("%d, %d to %d, %d, %d", w.d, w.least, w.most, w.list, w.waits)
}

// modelOf is the model with these means, whose ends are the ends of these.
func modelOf(d int, list, waits []api.Mean) *model {
	w := &model{d: d, list: list, waits: waits}
	for i, m := range w.all() {
		if i == 0 {
			w.least, w.most = m.V, m.V
		}
		w.least, w.most = min(w.least, m.V), max(w.most, m.V)
	}
	return w
}

// all are all means, the listed ones first.
func (w *model) all() []api.Mean { return append(slices.Clone(w.list), w.waits...) }

// weight is the weight of means together, of any size.
func weight(l []api.Mean) *big.Int {
	sum := new(big.Int)
	for _, m := range l {
		sum.Add(sum, unsigned(m.N))
	}
	return sum
}

// total is the weight of all means.
func (w *model) total() uint64 { return weight(w.all()).Uint64() }

// press is what chapter 22's words make of pressing.
func (w *model) press() {
	all := w.all()
	slices.SortStableFunc(all, func(a, b api.Mean) int { return cmp.Compare(a.V, b.V) })
	w.list, w.waits = nil, nil
	ahead, n := new(big.Int), weight(all)
	for len(all) > 0 {
		current := all[0]
		all = all[1:]
		for len(all) > 0 && w.may(ahead, unsigned(current.N+all[0].N), n) {
			current = together(current, all[0])
			all = all[1:]
		}
		w.list = append(w.list, current)
		ahead.Add(ahead, unsigned(current.N))
	}
}

// may is whether W d n is at most (2 L + W) (2 n - 2 L - W), by L, W and n.
func (w *model) may(ahead, both, n *big.Int) bool {
	front := new(big.Int).Add(ahead, ahead)
	front.Add(front, both)
	back := new(big.Int).Add(n, n)
	back.Sub(back, front)
	asked := new(big.Int).Mul(both, big.NewInt(int64(w.d)))
	return asked.Mul(asked, n).Cmp(front.Mul(front, back)) <= 0
}

// together is what two means are together.
func together(a, b api.Mean) api.Mean {
	sum := new(big.Int).Mul(big.NewInt(a.V), unsigned(a.N))
	sum.Add(sum, new(big.Int).Mul(big.NewInt(b.V), unsigned(b.N)))
	return api.Mean{V: sum.Div(sum, unsigned(a.N+b.N)).Int64(), N: a.N + b.N}
}

// unsigned is a number without a sign, of any size.
func unsigned(n uint64) *big.Int { return new(big.Int).SetUint64(n) }

// joined is the model that w's takes o's into.
func (w *model) joined(o *model) *model {
	j := *w
	switch {
	case o.total() == 0:
		return &j
	case w.total() == 0:
		j.least, j.most = o.least, o.most
	default:
		j.least, j.most = min(w.least, o.least), max(w.most, o.most)
	}
	j.waits = append(slices.Clone(w.waits), o.all()...)
	j.press()
	return &j
}

// bytes are the digest's bytes by the chapter's words.
func (w *model) bytes() []byte { return w.form().bytes() }

// form are the numbers that the digest's bytes tell.
func (w *model) form() form {
	f := form{d: uint64(w.d), least: w.least, most: w.most, many: uint64(len(w.list)), more: uint64(len(w.waits))}
	for i, m := range w.list {
		v := big.NewInt(m.V)
		if i > 0 {
			v.Sub(v, big.NewInt(w.list[i-1].V))
		}
		f.list = append(f.list, told{v, m.N})
	}
	for _, m := range w.waits {
		f.waits = append(f.waits, told{big.NewInt(m.V), m.N})
	}
	return f
}

// told is a mean as bytes tell it: of each listed one but the first how much it is above the one ahead.
type told struct {
	v *big.Int
	n uint64
}

// form are the numbers of which bytes are, whether they are a digest's or not.
type form struct {
	d           uint64
	least, most int64
	many        uint64
	list        []told
	more        uint64
	waits       []told
}

func (f form) bytes() []byte {
	b := binary.AppendUvarint(nil, f.d)
	b = binary.AppendVarint(b, f.least)
	b = binary.AppendVarint(b, f.most)
	b = binary.AppendUvarint(b, f.many)
	for i, p := range f.list {
		if i == 0 {
			b = binary.AppendVarint(b, p.v.Int64())
		} else {
			b = binary.AppendUvarint(b, p.v.Uint64())
		}
		b = binary.AppendUvarint(b, p.n)
	}
	b = binary.AppendUvarint(b, f.more)
	for _, p := range f.waits {
		b = binary.AppendVarint(b, p.v.Int64())
		b = binary.AppendUvarint(b, p.n)
	}
	return b
}

// row reads numbers that were written in as few bytes as may be.
type row struct {
	b     []byte
	wrong bool
}

// whole is the next number without a sign.
func (r *row) whole() uint64 {
	n, size := binary.Uvarint(r.b)
	if size <= 0 || len(binary.AppendUvarint(nil, n)) != size {
		r.wrong, r.b = true, nil
		return 0
	}
	r.b = r.b[size:]
	return n
}

// signed is the next number with a sign.
func (r *row) signed() int64 {
	n := r.whole()
	if n%2 == 1 {
		return -int64(n/2) - 1
	}
	return int64(n / 2)
}

// read is the model of a digest whose bytes b is, by the chapters' words, or nil; numbers and totals are reckoned by numbers of any size.
func read(b []byte) *model {
	r := &row{b: b}
	d := r.whole()
	w := &model{least: r.signed(), most: r.signed()}
	at := new(big.Int)
	many := r.whole()
	for i := uint64(0); i < many && !r.wrong; i++ {
		if i == 0 {
			at.SetInt64(r.signed())
		} else {
			at.Add(at, unsigned(r.whole()))
		}
		if !at.IsInt64() {
			return nil
		}
		w.list = append(w.list, api.Mean{V: at.Int64(), N: r.whole()})
	}
	more := r.whole()
	for i := uint64(0); i < more && !r.wrong; i++ {
		w.waits = append(w.waits, api.Mean{V: r.signed(), N: r.whole()})
	}
	if r.wrong || len(r.b) > 0 || d < 10 || d > 1000 || more >= d || !w.right() {
		return nil
	}
	w.d = int(d)
	return w
}

// right is whether means and ends may be a digest's.
func (w *model) right() bool {
	all := w.all()
	for _, m := range all {
		if m.N == 0 || m.V < w.least || m.V > w.most {
			return false
		}
	}
	return weight(all).Cmp(big.NewInt(full)) <= 0 && (len(all) > 0 || w.least == 0 && w.most == 0)
}

// loaded is the digest that Load makes of a model.
func loaded(t *testing.T, w *model) *digest.Digest {
	t.Helper()
	x, e := digest.Load(w.d, w.least, w.most, w.list, w.waits)
	if x == nil || e != api.OK {
		t.Fatalf("%v: Load: %v, %d", w, x, e)
	}
	return x
}

// bytesOf are the bytes of a digest, of which Size says how many they are.
func bytesOf(t *testing.T, x *digest.Digest) []byte {
	t.Helper()
	b, e := tdwire.Write(x)
	if n := tdwire.Size(x); e != api.OK || n != len(b) {
		t.Fatalf("Write: % x, %d; Size: %d", b, e, n)
	}
	return b
}

// hold holds the bytes of a digest against the model, and what is read of them against the digest.
func hold(t *testing.T, x *digest.Digest, w *model) {
	t.Helper()
	b := bytesOf(t, x)
	if want := w.bytes(); !bytes.Equal(b, want) {
		t.Fatalf("%v: % x, not % x", w, b, want)
	}
	if !holdRead(t, b) {
		t.Fatalf("%v: % x is none", w, b)
	}
}

// holdRead holds what is read of any bytes against the model, and tells whether they are a digest's.
func holdRead(t *testing.T, b []byte) bool {
	t.Helper()
	w, was := read(b), slices.Clone(b)
	x, e := tdwire.Read(b)
	n, f := tdwire.Weight(b)
	if !bytes.Equal(b, was) {
		t.Fatalf("% x is changed to % x", was, b)
	}
	if w == nil {
		if x != nil || e != api.ErrBytes || n != 0 || f != api.ErrBytes {
			t.Fatalf("% x: Read: %v, %d; Weight: %d, %d", b, x, e, n, f)
		}
		return false
	}
	if x == nil || e != api.OK || n != w.total() || f != api.OK {
		t.Fatalf("% x: Read: %v, %d; Weight: %d, %d", b, x, e, n, f)
	}
	holdKept(t, x, w)
	if again := bytesOf(t, x); !bytes.Equal(again, b) {
		t.Fatalf("% x is written as % x", b, again)
	}
	return true
}

// holdKept holds what a digest keeps against the model.
func holdKept(t *testing.T, x *digest.Digest, w *model) {
	t.Helper()
	if l, o := x.List(), x.Waits(); x.Fineness() != w.d || !slices.Equal(l, w.list) || !slices.Equal(o, w.waits) || x.Total() != w.total() {
		t.Fatalf("%v: %d, %d, %d, %d", w, x.Fineness(), l, o, x.Total())
	}
	want := api.OK
	if w.total() == 0 {
		want = api.ErrEmpty
	}
	if a, b, e := x.Ends(); a != w.least || b != w.most || e != want {
		t.Fatalf("%v: Ends: %d, %d, %d", w, a, b, e)
	}
}

// refused wants bytes to be no digest's.
func refused(t *testing.T, name string, b []byte) {
	t.Helper()
	if holdRead(t, b) {
		t.Errorf("%s: % x is read", name, b)
	}
}

// holdJoin holds what Join makes of any two bytes against the model, and against Take of what is read.
func holdJoin(t *testing.T, a, b []byte) api.Errno {
	t.Helper()
	wasA, wasB := slices.Clone(a), slices.Clone(b)
	x, y, want := read(a), read(b), api.OK
	switch {
	case x == nil || y == nil:
		want = api.ErrBytes
	case x.d != y.d:
		want = api.ErrKind
	case x.total()+y.total() > full:
		want = api.ErrCap
	}
	c, e := tdwire.Join(a, b)
	if e != want || e != api.OK && len(c) > 0 || !bytes.Equal(a, wasA) || !bytes.Equal(b, wasB) {
		t.Fatalf("Join(% x, % x): % x, %d, not %d", wasA, wasB, c, e, want)
	}
	if want != api.OK {
		return e
	}
	if w := x.joined(y); !bytes.Equal(c, w.bytes()) {
		t.Fatalf("Join(% x, % x): % x, not % x", a, b, c, w.bytes())
	}
	s, _ := tdwire.Read(a)
	o, _ := tdwire.Read(b)
	if e := s.Take(o); e != api.OK || !bytes.Equal(c, bytesOf(t, s)) {
		t.Fatalf("Join(% x, % x): % x, and Take: %d, % x", a, b, c, e, bytesOf(t, s))
	}
	holdRead(t, c)
	return e
}

// anyValue is a number with a sign, of any count of bits; often a small one.
func anyValue(dice *rand.Rand) int64 {
	switch dice.Intn(5) {
	case 0:
		return int64(dice.Uint64()) >> dice.Intn(64)
	case 1:
		return dice.Int63n(2001) - 1000
	}
	return dice.Int63n(41) - 20
}

// anyWeight is one that may be, of any count of bits; often 1.
func anyWeight(dice *rand.Rand) uint64 {
	switch dice.Intn(4) {
	case 0:
		return 1 + dice.Uint64()>>(24+dice.Intn(40))
	case 1:
		return 1 + uint64(dice.Intn(20))
	}
	return 1
}

// anyMeans are as many means at most.
func anyMeans(dice *rand.Rand, many int) []api.Mean {
	var l []api.Mean
	for range dice.Intn(many + 1) {
		l = append(l, api.Mean{V: anyValue(dice), N: anyWeight(dice)})
	}
	return l
}

// anyFineness is one that may be, often a small one.
func anyFineness(dice *rand.Rand) int {
	return []int{10, 10, 11, 12, 17, 127, 128, 1000}[dice.Intn(8)]
}

// anyModel is a digest that may be: its list need not be what pressing makes, nor its ends the means' own.
func anyModel(dice *rand.Rand, d int) *model {
	list := anyMeans(dice, 12)
	slices.SortFunc(list, func(a, b api.Mean) int { return cmp.Compare(a.V, b.V) })
	w := modelOf(d, list, anyMeans(dice, min(d-1, 12)))
	if len(w.all()) > 0 && dice.Intn(2) == 0 {
		w.least = max(w.least, lowest+99) - dice.Int63n(100)
		w.most = min(w.most, highest-99) + dice.Int63n(100)
	}
	return w
}
