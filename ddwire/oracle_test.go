package ddwire_test

import (
	"bytes"
	"encoding/binary"
	"maps"
	"math/big"
	"math/rand"
	"slices"
	"testing"

	"theodolite/api"
	"theodolite/dd"
	"theodolite/ddwire"
	"theodolite/scale"
)

const most = 1 << 62 // the greatest total

// accuracies are some of those that may be, both ends among them.
var accuracies = []int{100, 101, 250, 1000, 3333, 4999, 5000}

// scales are those that were made already.
var scales = map[int]*scale.Scale{}

// scaleOf is the scale of an accuracy.
func scaleOf(a int) *scale.Scale {
	if scales[a] == nil {
		scales[a], _ = scale.New(a)
	}
	return scales[a]
}

// model is a sketch by the chapters' words: how often each key was counted, none of them taken together.
type model struct {
	a, m  int
	count map[int]uint64
}

// modelOf is the model that counted these pairs.
func modelOf(a, m int, l ...api.Pair) *model {
	w := &model{a, m, map[int]uint64{}}
	for _, p := range l {
		w.count[p.Key] += p.N
	}
	return w
}

// total is how much was counted in all.
func (w *model) total() uint64 {
	all := uint64(0)
	for _, n := range w.count {
		all += n
	}
	return all
}

// kept are the pairs that are kept, and how much is folded.
func (w *model) kept() ([]api.Pair, uint64) {
	var l []api.Pair
	folded := uint64(0)
	for i, k := range slices.Sorted(maps.Keys(w.count)) {
		if i < len(w.count)-w.m {
			folded += w.count[k]
			continue
		}
		l = append(l, api.Pair{Key: k, N: w.count[k]})
	}
	if folded > 0 {
		l[0].N += folded
	}
	return l, folded
}

// bytes are the sketch's bytes by the chapter's words.
func (w *model) bytes() []byte {
	l, folded := w.kept()
	f := form{uint64(w.a), uint64(w.m), uint64(len(l)), folded, nil}
	for i, p := range l {
		k := int64(p.Key)
		if i > 0 {
			k -= int64(l[i-1].Key) + 1
		}
		f.pairs = append(f.pairs, told{k, p.N})
	}
	return f.bytes()
}

// joined is the model of all that two of them counted.
func (w *model) joined(o *model) *model {
	both := modelOf(w.a, w.m)
	for _, count := range []map[int]uint64{w.count, o.count} {
		for k, n := range count {
			both.count[k] += n
		}
	}
	return both
}

// told is a pair as bytes tell it: of the first one the key, of each other one how far it is above the one ahead, less 1.
type told struct {
	k int64
	n uint64
}

// form are the numbers of which bytes are, whether they are a sketch's or not.
type form struct {
	a, m, many, folded uint64
	pairs              []told
}

// formOf are the numbers of some pairs, whose count is told as it is.
func formOf(a, m, folded uint64, l ...told) form {
	return form{a, m, uint64(len(l)), folded, l}
}

func (f form) bytes() []byte {
	var b []byte
	for _, n := range []uint64{f.a, f.m, f.many, f.folded} {
		b = binary.AppendUvarint(b, n)
	}
	for i, p := range f.pairs {
		if i == 0 {
			b = binary.AppendVarint(b, p.k)
		} else {
			b = binary.AppendUvarint(b, uint64(p.k))
		}
		b = binary.AppendUvarint(b, p.n)
	}
	return b
}

// row reads numbers that were written in as few bytes as may be.
type row struct {
	b     []byte
	wrong bool
}

// whole is the next number without a sign.
func (r *row) whole() uint64 {
	n, size := binary.Uvarint(r.b)
	if size <= 0 || len(binary.AppendUvarint(nil, n)) != size {
		r.wrong, r.b = true, nil
		return 0
	}
	r.b = r.b[size:]
	return n
}

// signed is the next number with a sign.
func (r *row) signed() int64 {
	n := r.whole()
	if n%2 == 1 {
		return -int64(n/2) - 1
	}
	return int64(n / 2)
}

// read is the model of a sketch whose bytes b is, by the chapters' words, or nil; keys and totals are reckoned by numbers of any size.
func read(b []byte) *model {
	r := &row{b: b}
	a, m, many, folded := r.whole(), r.whole(), r.whole(), r.whole()
	if r.wrong || a < 100 || a > 5000 || m < 2 || m > 4096 || many > m || folded > 0 && many < m {
		return nil
	}
	length := big.NewInt(int64(scaleOf(int(a)).Len()))
	w := modelOf(int(a), int(m))
	key, all := new(big.Int), new(big.Int)
	for i := range many {
		if i == 0 {
			key.SetInt64(r.signed())
		} else {
			key.Add(key, new(big.Int).SetUint64(r.whole()))
			key.Add(key, big.NewInt(1))
		}
		n := r.whole()
		if r.wrong || n == 0 || new(big.Int).Abs(key).Cmp(length) > 0 {
			return nil
		}
		k := int(key.Int64())
		all.Add(all, new(big.Int).SetUint64(n))
		w.count[k] = n
		if i == 0 && folded > 0 {
			if n <= folded || -k == int(length.Int64()) {
				return nil
			}
			w.count[k], w.count[k-1] = n-folded, folded
		}
	}
	if len(r.b) > 0 || all.Cmp(big.NewInt(most)) > 0 {
		return nil
	}
	return w
}

// made is a sketch to which each key of a model was added by the middle of its range.
func made(t *testing.T, w *model) *dd.Sketch {
	t.Helper()
	s, e := dd.New(w.a, w.m)
	if e != api.OK {
		t.Fatalf("New(%d, %d): %d", w.a, w.m, e)
	}
	for k, n := range w.count {
		add(t, s, k, n)
	}
	return s
}

// add counts a key by the middle of its range.
func add(t *testing.T, s *dd.Sketch, k int, n uint64) {
	t.Helper()
	v, e := scaleOf(s.Accuracy()).Mid(k)
	if e != api.OK || s.Add(v, n) != api.OK {
		t.Fatalf("Add of the key %d, %d: %d", k, n, e)
	}
}

// bytesOf are the bytes of a sketch, of which Size says how many they are.
func bytesOf(t *testing.T, s *dd.Sketch) []byte {
	t.Helper()
	b, e := ddwire.Write(s)
	if n := ddwire.Size(s); e != api.OK || n != len(b) {
		t.Fatalf("Write: % x, %d; Size: %d", b, e, n)
	}
	return b
}

// hold holds the bytes of a sketch against the model, and what is read of them against the sketch.
func hold(t *testing.T, s *dd.Sketch, w *model) {
	t.Helper()
	b := bytesOf(t, s)
	if want := w.bytes(); !bytes.Equal(b, want) {
		t.Fatalf("%d: % x, not % x", w, b, want)
	}
	if !holdRead(t, b) {
		t.Fatalf("% x is none", b)
	}
}

// holdRead holds what is read of any bytes against the model, and tells whether they are a sketch's.
func holdRead(t *testing.T, b []byte) bool {
	t.Helper()
	w, was := read(b), slices.Clone(b)
	s, e := ddwire.Read(b)
	if !bytes.Equal(b, was) {
		t.Fatalf("% x is changed to % x", was, b)
	}
	if w == nil {
		if s != nil || e != api.ErrBytes {
			t.Fatalf("Read(% x): %v, %d", b, s, e)
		}
		return false
	}
	if s == nil || e != api.OK {
		t.Fatalf("Read(% x): %v, %d", b, s, e)
	}
	l, folded := w.kept()
	if got := s.Pairs(); s.Accuracy() != w.a || s.Budget() != w.m || !slices.Equal(got, l) || s.Folded() != folded || s.Total() != w.total() {
		t.Fatalf("Read(% x): %d %d, %d, %d", b, s.Accuracy(), s.Budget(), got, s.Folded())
	}
	if again := bytesOf(t, s); !bytes.Equal(again, b) {
		t.Fatalf("% x is written as % x", b, again)
	}
	if a, m, e := ddwire.Peek(b); a != w.a || m != w.m || e != api.OK {
		t.Fatalf("Peek(% x): %d, %d, %d", b, a, m, e)
	}
	return true
}

// refused wants bytes to be no sketch's.
func refused(t *testing.T, name string, b []byte) {
	t.Helper()
	if holdRead(t, b) {
		t.Errorf("%s: % x is read", name, b)
	}
}

// holdJoin holds what Join makes of any two bytes against the model, and against Take of what is read.
func holdJoin(t *testing.T, a, b []byte) api.Errno {
	t.Helper()
	wasA, wasB := slices.Clone(a), slices.Clone(b)
	x, y, want := read(a), read(b), api.OK
	switch {
	case x == nil || y == nil:
		want = api.ErrBytes
	case x.a != y.a || x.m != y.m:
		want = api.ErrKind
	case x.total()+y.total() > most:
		want = api.ErrCap
	}
	c, e := ddwire.Join(a, b)
	if e != want || e != api.OK && len(c) > 0 || !bytes.Equal(a, wasA) || !bytes.Equal(b, wasB) {
		t.Fatalf("Join(% x, % x): % x, %d, not %d", wasA, wasB, c, e, want)
	}
	if want != api.OK {
		return e
	}
	if w := x.joined(y); !bytes.Equal(c, w.bytes()) {
		t.Fatalf("Join(% x, % x): % x, not % x", a, b, c, w.bytes())
	}
	s, _ := ddwire.Read(a)
	o, _ := ddwire.Read(b)
	if e := s.Take(o); e != api.OK || !bytes.Equal(c, bytesOf(t, s)) {
		t.Fatalf("Join(% x, % x): % x, and Take: %d, % x", a, b, c, e, bytesOf(t, s))
	}
	holdRead(t, c)
	return e
}

// anyModel is one of any accuracy, with a budget that is often less than its keys.
func anyModel(dice *rand.Rand) *model {
	m := 2 + dice.Intn(6)
	if dice.Intn(4) == 0 {
		m = 2 + dice.Intn(4095)
	}
	return anyOf(dice, accuracies[dice.Intn(len(accuracies))], m)
}

// anyOf is one of this accuracy and budget.
func anyOf(dice *rand.Rand, a, m int) *model {
	w := modelOf(a, m)
	length := scaleOf(a).Len()
	for range dice.Intn(3 * min(m, 20)) {
		k := dice.Intn(21) - 10
		if dice.Intn(2) == 0 {
			k = dice.Intn(2*length+1) - length
		}
		w.count[k] = 1 + dice.Uint64()>>(10+dice.Intn(54))
	}
	return w
}
