package dense_test

import (
	"math"
	"math/rand"
	"slices"
	"testing"

	"theodolite/api"
	"theodolite/dense"
)

const (
	greatest = 1 << 20
	top      = 1 << 62
)

// wantAdd holds what Add answers against what is wanted.
func wantAdd(t *testing.T, s *dense.Store, k int, n uint64, want api.Errno) {
	t.Helper()
	if e := s.Add(k, n); e != want {
		t.Fatalf("Add(%d, %d): %d, not %d", k, n, e, want)
	}
}

// P13.1, P13.3: the chapter's examples.
func TestExamples(t *testing.T) {
	s := made(t, api.Pair{Key: 5, N: 2}, api.Pair{Key: -3, N: 1}, api.Pair{Key: 5, N: 1})
	if l := s.Pairs(); !slices.Equal(l, []api.Pair{{Key: -3, N: 1}, {Key: 5, N: 3}}) {
		t.Errorf("Pairs: %d", l)
	}
	if n := s.Total(); n != 4 {
		t.Errorf("Total: %d", n)
	}
	if a, b, ok := s.Ends(); a != -3 || b != 5 || !ok {
		t.Errorf("Ends: %d, %d, %t", a, b, ok)
	}
	wantAdd(t, s, 8189, 1, api.ErrFull)
	wantAdd(t, s, 8188, 1, api.OK)
}

// P13.1, P13.3: the zero store has counted nothing.
func TestZero(t *testing.T) {
	s := &dense.Store{}
	hold(t, s, model{})
	for _, k := range []int{0, 1, -1, 8191, greatest, -greatest, math.MaxInt, math.MinInt} {
		if n := s.Count(k); n != 0 {
			t.Errorf("Count(%d): %d", k, n)
		}
		if n := s.Drop(k); n != 0 {
			t.Errorf("Drop(%d): %d", k, n)
		}
	}
	s.Clear()
	hold(t, s, model{})
}

// P13.1: which error is told, where several apply; a refused key changes nothing.
func TestAddRefuses(t *testing.T) {
	few := []api.Pair{{Key: 5, N: 2}, {Key: -3, N: 1}}
	for _, c := range []struct {
		l    []api.Pair
		k    int
		n    uint64
		want api.Errno
	}{
		{nil, 0, 0, api.ErrWeight},
		{nil, greatest + 1, 0, api.ErrWeight},
		{few, 8189, 0, api.ErrWeight},
		{few, math.MinInt, 0, api.ErrWeight},
		{nil, greatest + 1, 1, api.ErrRange},
		{nil, -greatest - 1, 1, api.ErrRange},
		{nil, math.MaxInt, 1, api.ErrRange},
		{nil, math.MinInt, 1, api.ErrRange},
		{nil, 1 << 32, 1, api.ErrRange},
		{nil, greatest + 1, top + 1, api.ErrRange},
		{few, math.MaxInt, top, api.ErrRange},
		{few, 8189, 1, api.ErrFull},
		{few, -8187, 1, api.ErrFull},
		{few, 8189, top, api.ErrFull},
		{few, greatest, 1, api.ErrFull},
		{few, -greatest, math.MaxUint64, api.ErrFull},
		{nil, 0, top + 1, api.ErrCap},
		{nil, 0, math.MaxUint64, api.ErrCap},
		{few, 5, top - 2, api.ErrCap},
		{few, 8188, top - 2, api.ErrCap},
		{few, -3, math.MaxUint64 - 2, api.ErrCap},
	} {
		s := made(t, c.l...)
		wantAdd(t, s, c.k, c.n, c.want)
		hold(t, s, modelOf(c.l...))
	}
}

// P13.1: the greatest counts, keys and windows that may be.
func TestAddEdges(t *testing.T) {
	for _, l := range [][]api.Pair{
		{{Key: 0, N: top}},
		{{Key: greatest, N: 1}},
		{{Key: -greatest, N: 1}},
		{{Key: greatest, N: 1}, {Key: greatest - 8191, N: 1}},
		{{Key: -greatest, N: 1}, {Key: -greatest + 8191, N: 1}},
		{{Key: -4000, N: 1}, {Key: 4191, N: 1}},
		{{Key: 4191, N: 1}, {Key: -4000, N: 1}},
		{{Key: 0, N: 1}, {Key: 8191, N: top - 1}},
		{{Key: 3, N: top / 2}, {Key: 3, N: top / 2}},
	} {
		hold(t, made(t, l...), modelOf(l...))
	}
	s := made(t, api.Pair{Key: 0, N: 1}, api.Pair{Key: 8191, N: 1})
	wantAdd(t, s, -1, 1, api.ErrFull)
	wantAdd(t, s, 8192, 1, api.ErrFull)
	wantAdd(t, s, 4000, 1, api.OK)
	hold(t, s, model{0: 1, 4000: 1, 8191: 1})
}

// P13.2: what comes from another store, which stays as it was, or from the store itself.
func TestTake(t *testing.T) {
	few := []api.Pair{{Key: -3, N: 1}, {Key: 5, N: 3}}
	for _, l := range [][]api.Pair{
		nil, few, {{Key: 0, N: 7}}, {{Key: 5, N: 1}, {Key: 6, N: 2}}, {{Key: 8188, N: 1}}, {{Key: -8186, N: 1}},
		{{Key: -20, N: 1}, {Key: 20, N: top - 5}},
	} {
		for _, both := range [][2][]api.Pair{{few, l}, {l, few}} {
			s, o := made(t, both[0]...), made(t, both[1]...)
			if e := s.Take(o); e != api.OK {
				t.Fatalf("%d takes %d: %d", both[0], both[1], e)
			}
			hold(t, s, modelOf(slices.Concat(both[0], both[1])...))
			hold(t, o, modelOf(both[1]...))
		}
	}
	for _, l := range [][]api.Pair{nil, few, {{Key: 0, N: 1}, {Key: 8191, N: 2}}, {{Key: greatest, N: top / 2}}} {
		s := made(t, l...)
		if e := s.Take(s); e != api.OK {
			t.Fatalf("%d takes itself: %d", l, e)
		}
		hold(t, s, modelOf(slices.Concat(l, l)...))
	}
}

// P13.2: what isn't taken, and which error is told, where both apply; nothing is done then.
func TestTakeRefuses(t *testing.T) {
	few := []api.Pair{{Key: -3, N: 1}, {Key: 5, N: 3}}
	if e := made(t, few...).Take(nil); e != api.ErrArg {
		t.Errorf("Take(nil): %d", e)
	}
	if e := new(dense.Store).Take(nil); e != api.ErrArg {
		t.Errorf("Take(nil) by one that has counted nothing: %d", e)
	}
	for _, c := range []struct {
		l, o []api.Pair
		want api.Errno
	}{
		{few, []api.Pair{{Key: 8189, N: 1}}, api.ErrFull},
		{few, []api.Pair{{Key: -8187, N: 1}}, api.ErrFull},
		{few, []api.Pair{{Key: 0, N: 1}, {Key: 8189, N: 1}}, api.ErrFull},
		{few, []api.Pair{{Key: 0, N: top - 3}, {Key: 8189, N: 1}}, api.ErrFull},
		{few, []api.Pair{{Key: greatest, N: top}}, api.ErrFull},
		{few, []api.Pair{{Key: 0, N: 1}, {Key: 1, N: top - 4}}, api.ErrCap},
		{few, []api.Pair{{Key: 8188, N: top - 3}}, api.ErrCap},
		{[]api.Pair{{Key: 0, N: top}}, []api.Pair{{Key: 0, N: 1}}, api.ErrCap},
		{[]api.Pair{{Key: 0, N: top}}, []api.Pair{{Key: 0, N: top}}, api.ErrCap},
	} {
		s, o := made(t, c.l...), made(t, c.o...)
		if e := s.Take(o); e != c.want {
			t.Errorf("%d takes %d: %d, not %d", c.l, c.o, e, c.want)
		}
		hold(t, s, modelOf(c.l...))
		hold(t, o, modelOf(c.o...))
	}
	s := made(t, api.Pair{Key: 1, N: top / 2}, api.Pair{Key: 2, N: 1})
	if e := s.Take(s); e != api.ErrCap {
		t.Errorf("a store takes itself: %d", e)
	}
	hold(t, s, model{1: top / 2, 2: 1})
}

// P13.4: a key that was dropped was never counted: the window is that of the others.
func TestDrop(t *testing.T) {
	s := made(t, api.Pair{Key: 0, N: 2}, api.Pair{Key: 10, N: 3}, api.Pair{Key: 8191, N: 4})
	m := model{0: 2, 10: 3, 8191: 4}
	for _, c := range []struct {
		k    int
		want uint64
	}{{5, 0}, {-1, 0}, {8192, 0}, {math.MaxInt, 0}, {math.MinInt, 0}, {0, 2}, {0, 0}} {
		if n := s.Drop(c.k); n != c.want {
			t.Errorf("Drop(%d): %d, not %d", c.k, n, c.want)
		}
		m.drop(c.k)
		hold(t, s, m)
	}
	wantAdd(t, s, 8202, 1, api.ErrFull)
	wantAdd(t, s, 8201, 1, api.OK)
	if n := s.Drop(8201); n != 1 {
		t.Errorf("Drop(8201): %d", n)
	}
	if n := s.Drop(8191); n != 4 {
		t.Errorf("Drop(8191): %d", n)
	}
	hold(t, s, model{10: 3})
	wantAdd(t, s, -8182, 1, api.ErrFull)
	wantAdd(t, s, -8181, 1, api.OK)
	s.Drop(-8181)
	if n := s.Drop(10); n != 3 {
		t.Errorf("Drop(10): %d", n)
	}
	hold(t, s, model{})
	wantAdd(t, s, -greatest, top, api.OK)
	hold(t, s, model{-greatest: top})
}

// P13.4: after Clear nothing was counted.
func TestClear(t *testing.T) {
	s := made(t, api.Pair{Key: 0, N: top - 1}, api.Pair{Key: 8191, N: 1})
	s.Clear()
	hold(t, s, model{})
	for _, k := range []int{0, 1, 8191} {
		if n := s.Count(k); n != 0 {
			t.Errorf("Count(%d): %d", k, n)
		}
	}
	wantAdd(t, s, greatest, top, api.OK)
	hold(t, s, model{greatest: top})
}

// P13.1: keys that come one by one from either side, till the window is full.
func TestGrowth(t *testing.T) {
	for name, key := range map[string]func(int) int{
		"up":   func(i int) int { return i },
		"down": func(i int) int { return -i },
		"both": func(i int) int { return (i + 1) / 2 * (1 - i%2*2) },
	} {
		s := &dense.Store{}
		for i := range 8192 {
			wantAdd(t, s, key(i), uint64(i+1), api.OK)
		}
		for i := range 8192 {
			if n := s.Count(key(i)); n != uint64(i+1) {
				t.Fatalf("%s: Count(%d): %d", name, key(i), n)
			}
		}
		a, b, ok := s.Ends()
		if !ok || b-a != 8191 || s.Len() != 8192 || s.Total() != 8192*8193/2 || len(s.Pairs()) != 8192 {
			t.Errorf("%s: from %d to %d, %d keys, %d in all", name, a, b, s.Len(), s.Total())
		}
		wantAdd(t, s, a-1, 1, api.ErrFull)
		wantAdd(t, s, b+1, 1, api.ErrFull)
	}
}

// P13.1 to P13.4: a window that goes from the least key that may be to the greatest one, key by key.
func TestWander(t *testing.T) {
	s := &dense.Store{}
	for k := -greatest; k <= greatest; k += 512 {
		wantAdd(t, s, k, 1, api.OK)
		if a, b, _ := s.Ends(); b != k || b-a > 8191 {
			t.Fatalf("from %d to %d", a, b)
		}
		if a, _, _ := s.Ends(); k-a == 512*15 && s.Drop(a) != 1 {
			t.Fatalf("%d is none", a)
		}
	}
	if s.Len() != 15 || s.Total() != 15 {
		t.Errorf("%d keys, %d in all", s.Len(), s.Total())
	}
}

// P13.1 to P13.4: whatever is done to some stores, one behind the other, they answer what the chapter's words say.
func TestAnyActs(t *testing.T) {
	for seed := range int64(60) {
		dice := rand.New(rand.NewSource(seed))
		stores := []*dense.Store{{}, {}, {}}
		models := []model{{}, {}, {}}
		for range 150 {
			i, j := dice.Intn(3), dice.Intn(3)
			s, m := stores[i], models[i]
			switch dice.Intn(20) {
			case 0:
				s.Clear()
				clear(m)
			case 1, 2, 3:
				want := m.take(models[j])
				if e := s.Take(stores[j]); e != want {
					t.Fatalf("seed %d: Take: %d, not %d", seed, e, want)
				}
			case 4, 5, 6, 7:
				k := anyKey(dice)
				if l := m.pairs(); len(l) > 0 && dice.Intn(2) == 0 {
					k = l[dice.Intn(2)*(len(l)-1)].Key
				}
				want := m.drop(k)
				if n := s.Drop(k); n != want {
					t.Fatalf("seed %d: Drop(%d): %d, not %d", seed, k, n, want)
				}
			default:
				k, n := anyKey(dice), anyCount(dice)
				wantAdd(t, s, k, n, m.add(k, n))
			}
			for i, s := range stores {
				hold(t, s, models[i])
			}
		}
	}
}

// P13.5: keys in another order, put together in another way, tell the same.
func TestOrder(t *testing.T) {
	dice := rand.New(rand.NewSource(7))
	for range 50 {
		var l []api.Pair
		least := dice.Intn(2*greatest-8192) - greatest
		for range dice.Intn(200) {
			l = append(l, api.Pair{Key: least + dice.Intn(8192), N: 1 + dice.Uint64()>>(12+dice.Intn(50))})
		}
		m := modelOf(l...)
		hold(t, made(t, l...), m)
		again := shuffled(dice, l)
		hold(t, made(t, again...), m)
		at := dice.Intn(len(l) + 1)
		s, o := made(t, again[:at]...), made(t, again[at:]...)
		if e := s.Take(o); e != api.OK {
			t.Fatalf("Take: %d", e)
		}
		hold(t, s, m)
	}
}

// P13.2, P13.3: an answer is new memory; a store that was taken is not kept.
func TestAnswers(t *testing.T) {
	s := made(t, api.Pair{Key: 1, N: 1}, api.Pair{Key: 2, N: 2})
	o := &dense.Store{}
	if e := o.Take(s); e != api.OK {
		t.Fatalf("Take: %d", e)
	}
	l := s.Pairs()
	other := s.Pairs()
	l[0] = api.Pair{Key: 9, N: 9}
	_ = append(l[:1], api.Pair{})
	hold(t, s, model{1: 1, 2: 2})
	if other[0] != (api.Pair{Key: 1, N: 1}) || other[1] != (api.Pair{Key: 2, N: 2}) {
		t.Errorf("another answer is %d", other)
	}
	wantAdd(t, s, 1, 5, api.OK)
	s.Drop(2)
	hold(t, o, model{1: 1, 2: 2})
	o.Clear()
	hold(t, s, model{1: 6})
}
