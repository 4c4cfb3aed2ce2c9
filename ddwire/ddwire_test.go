package ddwire_test

import (
	"bytes"
	"maps"
	"math"
	"math/rand"
	"slices"
	"testing"

	"theodolite/api"
	"theodolite/dd"
	"theodolite/ddwire"
)

// P21.1, P21.2: the chapter's example, byte by byte, and back.
func TestExample(t *testing.T) {
	s, _ := dd.New(5000, 2)
	for _, v := range []int64{8, 1} {
		if e := s.Add(v, 1); e != api.OK {
			t.Fatal(e)
		}
	}
	b, e := ddwire.Write(s)
	if !bytes.Equal(b, []byte{136, 39, 2, 2, 0, 2, 1, 0, 1}) || e != api.OK || ddwire.Size(s) != 9 {
		t.Errorf("Write: %d, %d; Size: %d", b, e, ddwire.Size(s))
	}
	o, e := ddwire.Read(b)
	if e != api.OK || o.Accuracy() != 5000 || o.Budget() != 2 || !slices.Equal(o.Pairs(), []api.Pair{{Key: 1, N: 1}, {Key: 2, N: 1}}) || o.Folded() != 0 {
		t.Errorf("Read: %v, %d", o, e)
	}
	if a, m, e := ddwire.Peek(b); a != 5000 || m != 2 || e != api.OK {
		t.Errorf("Peek: %d, %d, %d", a, m, e)
	}
	c, e := ddwire.Join(b, []byte{136, 39, 2, 1, 0, 10, 1})
	if !bytes.Equal(c, []byte{136, 39, 2, 2, 1, 4, 2, 2, 1}) || e != api.OK {
		t.Errorf("Join: %d, %d", c, e)
	}
}

// P21.1: bytes written out: nothing counted, keys of either sign, gaps, what is folded, numbers about 2^7 and 2^14, the greatest ones.
func TestBytes(t *testing.T) {
	top := []byte{128, 128, 128, 128, 128, 128, 128, 128, 64} // 2^62
	for _, c := range []struct {
		a, m int
		l    []api.Pair
		want []byte
	}{
		{100, 2, nil, []byte{100, 2, 0, 0}},
		{127, 127, nil, []byte{127, 127, 0, 0}},
		{128, 128, nil, []byte{128, 1, 128, 1, 0, 0}},
		{5000, 4096, nil, []byte{136, 39, 128, 32, 0, 0}},
		{5000, 2, []api.Pair{{Key: 0, N: 1}}, []byte{136, 39, 2, 1, 0, 0, 1}},
		{5000, 2, []api.Pair{{Key: 5, N: 1}}, []byte{136, 39, 2, 1, 0, 10, 1}},
		{5000, 2, []api.Pair{{Key: -1, N: 127}}, []byte{136, 39, 2, 1, 0, 1, 127}},
		{5000, 2, []api.Pair{{Key: -1, N: 128}}, []byte{136, 39, 2, 1, 0, 1, 128, 1}},
		{5000, 2, []api.Pair{{Key: -40, N: 7}, {Key: 40, N: 9}}, []byte{136, 39, 2, 2, 0, 79, 7, 79, 9}},
		{5000, 4, []api.Pair{{Key: -3, N: 1}, {Key: -2, N: 2}, {Key: 0, N: 3}, {Key: 7, N: 4}}, []byte{136, 39, 4, 4, 0, 5, 1, 0, 2, 1, 3, 6, 4}},
		{5000, 3, []api.Pair{{Key: -3, N: 1}, {Key: -2, N: 2}, {Key: 0, N: 3}, {Key: 7, N: 4}}, []byte{136, 39, 3, 3, 1, 3, 3, 1, 3, 6, 4}},
		{5000, 2, []api.Pair{{Key: -3, N: 1}, {Key: -2, N: 2}, {Key: 0, N: 3}, {Key: 7, N: 4}}, []byte{136, 39, 2, 2, 3, 0, 6, 6, 4}},
		{100, 2, []api.Pair{{Key: 63, N: 1}, {Key: 191, N: 1}}, []byte{100, 2, 2, 0, 126, 1, 127, 1}},
		{100, 2, []api.Pair{{Key: 64, N: 1}, {Key: 193, N: 1}}, []byte{100, 2, 2, 0, 128, 1, 1, 128, 1, 1}},
		{100, 2, []api.Pair{{Key: -65, N: 16384}, {Key: 1, N: 1}}, []byte{100, 2, 2, 0, 129, 1, 128, 128, 1, 65, 1}},
		{5000, 2, []api.Pair{{Key: 1, N: most}}, slices.Concat([]byte{136, 39, 2, 1, 0, 2}, top)},
		{5000, 2, []api.Pair{{Key: 1, N: 1}, {Key: 2, N: 128}, {Key: 3, N: most - 129}}, slices.Concat([]byte{136, 39, 2, 2, 1, 4, 129, 1, 0}, []byte{255, 254, 255, 255, 255, 255, 255, 255, 63})},
	} {
		w := modelOf(c.a, c.m, c.l...)
		s := made(t, w)
		if b := bytesOf(t, s); !bytes.Equal(b, c.want) {
			t.Errorf("%d %d, %d: %d, not %d", c.a, c.m, c.l, b, c.want)
		}
		hold(t, s, w)
	}
}

// P21.1: no sketch has no bytes.
func TestNone(t *testing.T) {
	if b, e := ddwire.Write(nil); len(b) != 0 || e != api.ErrArg {
		t.Errorf("Write(nil): % x, %d", b, e)
	}
	if n := ddwire.Size(nil); n != 0 {
		t.Errorf("Size(nil): %d", n)
	}
}

// P21.1, P21.2, P21.4: any sketches, with what they keep folded and not.
func TestAnySketches(t *testing.T) {
	dice := rand.New(rand.NewSource(211))
	folded := 0
	for range 3000 {
		w := anyModel(dice)
		s := made(t, w)
		hold(t, s, w)
		if s.Folded() > 0 {
			folded++
		}
	}
	if folded < 300 || folded > 2700 {
		t.Errorf("%d are folded", folded)
	}
}

// P21.1, P21.2: sketches of the greatest budget, with as many pairs, and with more keys than that.
func TestManyPairs(t *testing.T) {
	w := modelOf(100, 4096)
	length := scaleOf(100).Len()
	for k := -length; k <= length; k++ {
		w.count[k] = uint64(k + length + 1)
		if n := len(w.count); n == 4095 || n == 4096 || n == 4097 || k == length {
			hold(t, made(t, w), w)
		}
	}
	if n := len(w.count); n <= 4097 {
		t.Errorf("%d keys", n)
	}
}

// P21.4: the bytes hang on accuracy, budget and what was added: not on the order, nor on how it was taken together, nor on which values of a range they were.
func TestSameBytes(t *testing.T) {
	dice := rand.New(rand.NewSource(212))
	for range 300 {
		w := anyModel(dice)
		want := w.bytes()
		s, _ := dd.New(w.a, w.m)
		parts := []*dd.Sketch{s}
		for range 3 {
			o, _ := dd.New(w.a, w.m)
			parts = append(parts, o)
		}
		keys := slices.Sorted(maps.Keys(w.count))
		dice.Shuffle(len(keys), func(i, j int) { keys[i], keys[j] = keys[j], keys[i] })
		for _, k := range keys {
			some := uint64(dice.Int63n(int64(w.count[k])))
			v, _ := scaleOf(w.a).Low(k)
			if some > 0 && parts[dice.Intn(4)].Add(v, some) != api.OK {
				t.Fatal("Add")
			}
			add(t, parts[dice.Intn(4)], k, w.count[k]-some)
		}
		joined := bytesOf(t, s)
		for _, i := range dice.Perm(3) {
			b := bytesOf(t, parts[i+1])
			var e api.Errno
			if joined, e = ddwire.Join(joined, b); e != api.OK {
				t.Fatalf("Join: %d", e)
			}
			if e := s.Take(parts[i+1]); e != api.OK {
				t.Fatalf("Take: %d", e)
			}
		}
		if b := bytesOf(t, s); !bytes.Equal(b, want) || !bytes.Equal(joined, want) {
			t.Fatalf("%d: % x, and joined % x, not % x", w, b, joined, want)
		}
	}
}

// P21.4: another accuracy, another budget, or something else that was added, makes other bytes.
func TestOtherBytes(t *testing.T) {
	l := []api.Pair{{Key: 1, N: 2}, {Key: 3, N: 4}}
	met := map[string]bool{}
	all := []*model{
		modelOf(5000, 2, l...), modelOf(4999, 2, l...), modelOf(5000, 3, l...), modelOf(5000, 2), modelOf(5000, 3), modelOf(5000, 2, l[0]), modelOf(5000, 2, l[1]),
		modelOf(5000, 2, api.Pair{Key: 1, N: 3}, l[1]), modelOf(5000, 2, l[0], api.Pair{Key: 4, N: 4}), modelOf(5000, 2, api.Pair{Key: -1, N: 2}, l[1]),
		modelOf(5000, 2, api.Pair{Key: 0, N: 1}, api.Pair{Key: 1, N: 1}, l[1]), modelOf(5000, 2, api.Pair{Key: 0, N: 1}, l[0], l[1]),
	}
	for _, w := range all {
		hold(t, made(t, w), w)
		met[string(w.bytes())] = true
	}
	if len(met) != len(all) {
		t.Errorf("%d of %d", len(met), len(all))
	}
}

// P21.2: what was read goes on as what it is: it counts, refuses what is too much, and takes its like.
func TestGoesOn(t *testing.T) {
	w := modelOf(5000, 2, api.Pair{Key: 1, N: 1}, api.Pair{Key: 2, N: 1}, api.Pair{Key: 5, N: most - 10})
	s, e := ddwire.Read(w.bytes())
	if e != api.OK || s.Add(3, 9) != api.ErrCap || s.Add(3, 0) != api.ErrWeight || s.Add(math.MinInt64, 1) != api.ErrRange {
		t.Fatalf("Read: %d", e)
	}
	hold(t, s, w)
	if v, vague, e := s.At(0, 1); v != 4 || !vague || e != api.OK {
		t.Errorf("At(0, 1): %d, %t, %d", v, vague, e)
	}
	add(t, s, -40, 1)
	add(t, s, 4, 3)
	w.count[-40], w.count[4] = 1, 3
	hold(t, s, w)
	o, e := ddwire.Read(modelOf(5000, 2, api.Pair{Key: 7, N: 4}).bytes())
	if e != api.OK || o.Take(s) != api.OK {
		t.Fatalf("Take: %d", e)
	}
	w.count[7] = 4
	hold(t, o, w)
	if other, _ := ddwire.Read(modelOf(5000, 3).bytes()); o.Take(other) != api.ErrKind {
		t.Error("Take of another budget")
	}
}

// The rules that hold everywhere: what is handed in is neither changed nor kept, an answer is new memory, the same is answered again.
func TestArguments(t *testing.T) {
	w := modelOf(250, 3, api.Pair{Key: -9, N: 300}, api.Pair{Key: 4, N: 1}, api.Pair{Key: 8, N: 2}, api.Pair{Key: 700, N: 1})
	s, want := made(t, w), w.bytes()
	first, second := bytesOf(t, s), bytesOf(t, s)
	for i := range second {
		second[i] = 99
	}
	second = append(second, 99)
	if !bytes.Equal(first, want) {
		t.Errorf("an answer is another one's: % x, % x", first, second)
	}
	room := append(slices.Clone(want), 9, 9, 9, 9)
	b, was := room[:len(want)], slices.Clone(room)
	x, e := ddwire.Read(b)
	y, f := ddwire.Read(b)
	j, g := ddwire.Join(b, b)
	k, h := ddwire.Join(b, b)
	if _, _, i := ddwire.Peek(b); e+f+g+h+i != api.OK || !bytes.Equal(room, was) {
		t.Fatalf("%d, %d, %d, %d, %d: % x", e, f, g, h, i, room)
	}
	clear(room)
	clear(k)
	add(t, y, 8, 1)
	hold(t, x, w)
	if twice := w.joined(w); !bytes.Equal(j, twice.bytes()) {
		t.Errorf("Join: % x, not % x", j, twice.bytes())
	}
	hold(t, s, w)
}
