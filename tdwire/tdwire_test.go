package tdwire_test

import (
	"bytes"
	"math"
	"math/rand"
	"slices"
	"testing"

	"theodolite/api"
	"theodolite/digest"
	"theodolite/tdwire"
)

// empty is a digest to which nothing came.
func empty(t *testing.T, d int) *digest.Digest {
	t.Helper()
	x, e := digest.New(d)
	if x == nil || e != api.OK {
		t.Fatalf("New(%d): %v, %d", d, x, e)
	}
	return x
}

// made is a digest to which these came one by one.
func made(t *testing.T, d int, l ...api.Mean) *digest.Digest {
	t.Helper()
	x := empty(t, d)
	for _, m := range l {
		if e := x.Add(m.V, m.N); e != api.OK {
			t.Fatalf("Add(%d, %d): %d", m.V, m.N, e)
		}
	}
	return x
}

// P23.1 to P23.4: the chapter's examples, byte by byte, and back.
func TestExamples(t *testing.T) {
	x := empty(t, 10)
	for _, want := range [][]byte{{10, 0, 0, 0, 0}, {10, 1, 6, 0, 2, 6, 1, 1, 2}} {
		if b, e := tdwire.Write(x); !bytes.Equal(b, want) || e != api.OK || tdwire.Size(x) != len(want) {
			t.Errorf("Write: %d, %d; Size: %d", b, e, tdwire.Size(x))
		}
		n, e := tdwire.Weight(want)
		if n != x.Total() || e != api.OK {
			t.Errorf("Weight: %d, %d", n, e)
		}
		y, e := tdwire.Read(want)
		if e != api.OK || y.Fineness() != 10 || len(y.List()) != 0 || !slices.Equal(y.Waits(), x.Waits()) || y.Total() != n {
			t.Errorf("Read: %v, %d", y, e)
		}
		x = made(t, 10, api.Mean{V: 3, N: 1}, api.Mean{V: -1, N: 2})
	}
	// The means of both, none of which may be put to another one: -1 of weight 2 twice, 3 of weight 1 twice.
	b := []byte{10, 1, 6, 0, 2, 6, 1, 1, 2}
	c, e := tdwire.Join(b, b)
	if !bytes.Equal(c, []byte{10, 1, 6, 4, 1, 2, 0, 2, 4, 1, 0, 1, 0}) || e != api.OK {
		t.Errorf("Join: %d, %d", c, e)
	}
}

// P23.1: bytes written out: nothing, means that are listed, that wait, and both; numbers of either sign and about 2^6, 2^7 and 2^14; the farthest ones.
func TestBytes(t *testing.T) {
	far := slices.Repeat([]byte{255}, 9)                     // with 1 behind it: 2^64 - 1, or -2^63 as z
	top := append([]byte{254}, slices.Repeat(far[:1], 8)...) // with 1 behind it: 2^63 - 1 as z
	all := []byte{128, 128, 128, 128, 128, 128, 64}          // 2^48
	for _, c := range []struct {
		w    *model
		want []byte
	}{
		{modelOf(127, nil, nil), []byte{127, 0, 0, 0, 0}},
		{modelOf(128, nil, nil), []byte{128, 1, 0, 0, 0, 0}},
		{modelOf(1000, nil, nil), []byte{232, 7, 0, 0, 0, 0}},
		{modelOf(10, nil, []api.Mean{{V: 0, N: 1}}), []byte{10, 0, 0, 0, 1, 0, 1}},
		{modelOf(10, []api.Mean{{V: 0, N: 1}}, nil), []byte{10, 0, 0, 1, 0, 1, 0}},
		{modelOf(10, []api.Mean{{V: -3, N: 127}, {V: 4, N: 128}}, nil), []byte{10, 5, 8, 2, 5, 127, 7, 128, 1, 0}},
		{modelOf(10, []api.Mean{{V: 5, N: 1}, {V: 5, N: 2}, {V: 6, N: 3}, {V: 9, N: 4}}, nil), []byte{10, 10, 18, 4, 10, 1, 0, 2, 1, 3, 3, 4, 0}},
		{modelOf(10, nil, []api.Mean{{V: 9, N: 1}, {V: -9, N: 2}, {V: 9, N: 3}}), []byte{10, 17, 18, 0, 3, 18, 1, 17, 2, 18, 3}},
		{modelOf(10, []api.Mean{{V: 7, N: 2}, {V: 8, N: 2}}, []api.Mean{{V: 8, N: 1}, {V: 6, N: 1}}), []byte{10, 12, 16, 2, 14, 2, 1, 2, 2, 16, 1, 12, 1}},
		{modelOf(10, []api.Mean{{V: 63, N: 1}, {V: 190, N: 1}, {V: 318, N: 16384}}, nil), []byte{10, 126, 252, 4, 3, 126, 1, 127, 1, 128, 1, 128, 128, 1, 0}},
		{modelOf(10, []api.Mean{{V: -64, N: 1}, {V: 64, N: 1}}, []api.Mean{{V: 64, N: 1}, {V: -64, N: 1}}), []byte{10, 127, 128, 1, 2, 127, 1, 128, 1, 1, 2, 128, 1, 1, 127, 1}},
		{&model{10, -2, 9, []api.Mean{{V: 1, N: 1}}, []api.Mean{{V: 2, N: 1}}}, []byte{10, 3, 18, 1, 2, 1, 1, 4, 1}},
		{modelOf(10, []api.Mean{{V: 1, N: full}}, nil), slices.Concat([]byte{10, 2, 2, 1, 2}, all, []byte{0})},
		{modelOf(10, nil, []api.Mean{{V: 1, N: full}}), slices.Concat([]byte{10, 2, 2, 0, 1, 2}, all)},
		{modelOf(10, []api.Mean{{V: lowest, N: 1}, {V: highest, N: 2}}, nil), slices.Concat([]byte{10}, far, []byte{1}, top, []byte{1, 2}, far, []byte{1, 1}, far, []byte{1, 2, 0})},
		{modelOf(10, nil, []api.Mean{{V: highest, N: 1}, {V: lowest, N: 2}}), slices.Concat([]byte{10}, far, []byte{1}, top, []byte{1, 0, 2}, top, []byte{1, 1}, far, []byte{1, 2})},
	} {
		x := loaded(t, c.w)
		if b := bytesOf(t, x); !bytes.Equal(b, c.want) {
			t.Errorf("%v: %d, not %d", c.w, b, c.want)
		}
		hold(t, x, c.w)
		holdKept(t, x, c.w)
	}
}

// P23.1: no digest has no bytes.
func TestNone(t *testing.T) {
	if b, e := tdwire.Write(nil); len(b) != 0 || e != api.ErrArg {
		t.Errorf("Write(nil): % x, %d", b, e)
	}
	if n := tdwire.Size(nil); n != 0 {
		t.Errorf("Size(nil): %d", n)
	}
}

// P23.1, P23.4: empty digests of each fineness, and those with one value.
func TestFineness(t *testing.T) {
	for d := 10; d <= 1000; d++ {
		hold(t, empty(t, d), modelOf(d, nil, nil))
		hold(t, made(t, d, api.Mean{V: -7, N: 3}), modelOf(d, nil, []api.Mean{{V: -7, N: 3}}))
	}
}

// P23.1, P23.3, P23.4: any digests that may be.
func TestAnyDigests(t *testing.T) {
	dice := rand.New(rand.NewSource(231))
	for range 3000 {
		w := anyModel(dice, anyFineness(dice))
		hold(t, loaded(t, w), w)
	}
}

// P23.1, P23.4: digests as values come, ahead of each press and behind it.
func TestAsTheyCome(t *testing.T) {
	dice := rand.New(rand.NewSource(232))
	for _, d := range []int{10, 13, 50} {
		x, w := empty(t, d), modelOf(d, nil, nil)
		for i := range 8 * d {
			m := api.Mean{V: anyValue(dice), N: anyWeight(dice)}
			if e := x.Add(m.V, m.N); e != api.OK {
				t.Fatalf("Add(%d, %d): %d", m.V, m.N, e)
			}
			w.waits = append(w.waits, m)
			if i == 0 {
				w.least, w.most = m.V, m.V
			}
			w.least, w.most = min(w.least, m.V), max(w.most, m.V)
			if len(w.waits) >= d {
				w.press()
			}
			hold(t, x, w)
		}
	}
}

// P23.1, P23.3, P23.4: long lists, and as many that wait as may.
func TestLong(t *testing.T) {
	var list, waits []api.Mean
	for i := range 20000 {
		list = append(list, api.Mean{V: int64(i*i) - 1e6, N: uint64(i%300 + 1)})
	}
	for i := range 999 {
		waits = append(waits, api.Mean{V: int64(i*7919%1000) - 500, N: uint64(i + 1)})
	}
	w := modelOf(1000, list, waits)
	hold(t, loaded(t, w), w)
	if e := holdJoin(t, w.bytes(), w.bytes()); e != api.OK {
		t.Errorf("Join: %d", e)
	}
}

// P23.4: another fineness, another end, or another mean, or one that waits where the other one is listed, makes other bytes.
func TestOtherBytes(t *testing.T) {
	a, b := api.Mean{V: 3, N: 2}, api.Mean{V: 5, N: 4}
	met := map[string]bool{}
	all := []*model{
		modelOf(10, nil, nil), modelOf(11, nil, nil),
		modelOf(10, []api.Mean{a, b}, nil), modelOf(11, []api.Mean{a, b}, nil), modelOf(10, []api.Mean{a}, []api.Mean{b}), modelOf(10, []api.Mean{b}, []api.Mean{a}),
		modelOf(10, nil, []api.Mean{a, b}), modelOf(10, nil, []api.Mean{b, a}),
		{10, 2, 5, []api.Mean{a, b}, nil}, {10, 3, 6, []api.Mean{a, b}, nil}, {10, 3, 6, nil, []api.Mean{a, b}},
		modelOf(10, []api.Mean{a, {V: 5, N: 5}}, nil), modelOf(10, []api.Mean{{V: 3, N: 3}, b}, nil), {10, 3, 5, []api.Mean{{V: 4, N: 2}, b}, nil},
	}
	for _, w := range all {
		hold(t, loaded(t, w), w)
		met[string(w.bytes())] = true
	}
	if len(met) != len(all) {
		t.Errorf("%d of %d", len(met), len(all))
	}
}

// P23.4: what was read tells all that the one tells that was written, and goes on as it does.
func TestGoesOn(t *testing.T) {
	dice := rand.New(rand.NewSource(233))
	for range 150 {
		d := anyFineness(dice)
		x, other := loaded(t, anyModel(dice, d)), loaded(t, anyModel(dice, d))
		y, e := tdwire.Read(bytesOf(t, x))
		if e != api.OK {
			t.Fatalf("Read: %d", e)
		}
		for range 30 {
			holdLike(t, dice, x, y)
			v, n := anyValue(dice), anyWeight(dice)
			switch dice.Intn(12) {
			case 0:
				x.Press()
				y.Press()
			case 1:
				wantBoth(t, x.Take(other), y.Take(other))
			case 2:
				wantBoth(t, x.Add(v, 0), y.Add(v, 0))
				wantBoth(t, x.Add(v, full), y.Add(v, full))
			default:
				wantBoth(t, x.Add(v, n), y.Add(v, n))
			}
		}
		wantBoth(t, other.Take(x), other.Take(y))
		if o := empty(t, 999); y.Take(o) != api.ErrKind || o.Take(y) != api.ErrKind || y.Take(nil) != api.ErrArg {
			t.Fatal("Take of another fineness, or of none")
		}
	}
}

// wantBoth wants two errors to be the same.
func wantBoth(t *testing.T, a, b api.Errno) {
	t.Helper()
	if a != b {
		t.Fatalf("%d and %d", a, b)
	}
}

// holdLike holds what two digests tell against each other, at some parts and values.
func holdLike(t *testing.T, dice *rand.Rand, x, y *digest.Digest) {
	t.Helper()
	if a, b := bytesOf(t, x), bytesOf(t, y); !bytes.Equal(a, b) {
		t.Fatalf("% x and % x", a, b)
	}
	least, most, e := x.Ends()
	if a, b, f := y.Ends(); a != least || b != most || e != f || x.Total() != y.Total() || x.Fineness() != y.Fineness() {
		t.Fatalf("Ends: %d, %d and %d, %d", least, most, a, b)
	}
	if !slices.Equal(x.List(), y.List()) || !slices.Equal(x.Waits(), y.Waits()) {
		t.Fatalf("%d, %d and %d, %d", x.List(), x.Waits(), y.List(), y.Waits())
	}
	v, e := x.Mean()
	if o, f := y.Mean(); v != o || e != f {
		t.Fatalf("Mean: %d and %d", v, o)
	}
	for _, num := range []uint64{0, 1, dice.Uint64() >> 1, math.MaxInt64, math.MaxUint64} {
		v, e := x.At(num, math.MaxInt64)
		if o, f := y.At(num, math.MaxInt64); v != o || e != f {
			t.Fatalf("At(%d): %d and %d", num, v, o)
		}
	}
	for _, v := range []int64{anyValue(dice), least, most} {
		if n, m := x.Upto(v), y.Upto(v); n != m {
			t.Fatalf("Upto(%d): %d and %d", v, n, m)
		}
	}
}

// The rules that hold everywhere: what is handed in is neither changed nor kept, an answer is new memory, the same is answered again.
func TestArguments(t *testing.T) {
	w := modelOf(10, []api.Mean{{V: -9, N: 300}, {V: 4, N: 1}, {V: 700, N: 2}}, []api.Mean{{V: 8, N: 2}, {V: -700, N: 1}})
	x, want := loaded(t, w), w.bytes()
	first, second := bytesOf(t, x), bytesOf(t, x)
	for i := range second {
		second[i] = 99
	}
	_ = append(second, 99)
	if !bytes.Equal(first, want) {
		t.Errorf("an answer is another one's: % x, % x", first, second)
	}
	room := append(slices.Clone(want), 9, 9, 9, 9)
	b, was := room[:len(want)], slices.Clone(room)
	y, e := tdwire.Read(b)
	z, f := tdwire.Read(b)
	j, g := tdwire.Join(b, b)
	k, h := tdwire.Join(b, b)
	if n, i := tdwire.Weight(b); n != w.total() || e+f+g+h+i != api.OK || !bytes.Equal(room, was) {
		t.Fatalf("%d, %d, %d, %d, %d: % x", e, f, g, h, i, room)
	}
	clear(room)
	clear(k)
	if e := z.Add(8, 1); e != api.OK {
		t.Fatalf("Add: %d", e)
	}
	z.Press()
	hold(t, y, w)
	if twice := w.joined(w); !bytes.Equal(j, twice.bytes()) {
		t.Errorf("Join: % x, not % x", j, twice.bytes())
	}
	hold(t, x, w)
	holdKept(t, x, w)
}
