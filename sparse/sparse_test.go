package sparse_test

import (
	"math"
	"math/rand"
	"slices"
	"testing"

	"theodolite/api"
	"theodolite/sparse"
)

// wantAdd holds what Add answers against what is wanted.
func wantAdd(t *testing.T, s *sparse.List, k int, n uint64, want api.Errno) {
	t.Helper()
	if e := s.Add(k, n); e != want {
		t.Fatalf("Add(%d, %d): %d, not %d", k, n, e, want)
	}
}

// wantCut holds what Cut answers, and leaves, against what P14.5's words say.
func wantCut(t *testing.T, s *sparse.List, m model, most int) {
	t.Helper()
	want := m.cut(most)
	if n := s.Cut(most); n != want {
		t.Fatalf("Cut(%d): %d, not %d", most, n, want)
	}
	hold(t, s, m)
}

// P14.1 to P14.5: the chapter's examples.
func TestExamples(t *testing.T) {
	s, e := sparse.Of([]api.Pair{{Key: 1, N: 2}, {Key: 5, N: 1}, {Key: 9, N: 3}})
	if e != api.OK {
		t.Fatalf("Of: %d", e)
	}
	for r, want := range map[uint64]int{3: 5, 4: 9} {
		if k, e := s.Key(r); k != want || e != api.OK {
			t.Errorf("Key(%d): %d, %d", r, k, e)
		}
	}
	if a, b := s.Below(5), s.Upto(5); a != 2 || b != 3 {
		t.Errorf("Below(5): %d, Upto(5): %d", a, b)
	}
	if n := s.Cut(2); n != 2 {
		t.Errorf("Cut(2): %d", n)
	}
	if l := s.Pairs(); !slices.Equal(l, []api.Pair{{Key: 5, N: 3}, {Key: 9, N: 3}}) {
		t.Errorf("Pairs: %d", l)
	}
}

// P14.1: the zero list has counted nothing, nor has one of no pairs.
func TestZero(t *testing.T) {
	none, e := sparse.Of(nil)
	if none == nil || e != api.OK {
		t.Fatalf("Of(nil): %v, %d", none, e)
	}
	empty, e := sparse.Of([]api.Pair{})
	if empty == nil || e != api.OK {
		t.Fatalf("Of none: %v, %d", empty, e)
	}
	for _, s := range []*sparse.List{{}, none, empty} {
		for _, m := range []int{math.MinInt, 0, 1, math.MaxInt} {
			wantCut(t, s, model{}, m)
		}
		holdRanks(t, s, model{})
		if e := s.Take(s); e != api.OK {
			t.Errorf("Take of itself: %d", e)
		}
		wantAdd(t, s, -greatest, top, api.OK)
		hold(t, s, model{-greatest: top})
	}
}

// P14.1: which error is told, where several apply, by Add and by Of; a refused key changes nothing.
func TestAddRefuses(t *testing.T) {
	few := []api.Pair{{Key: 5, N: 2}, {Key: -3, N: 1}}
	for _, c := range []struct {
		l    []api.Pair
		k    int
		n    uint64
		want api.Errno
	}{
		{nil, 0, 0, api.ErrWeight},
		{nil, greatest + 1, 0, api.ErrWeight},
		{few, 5, 0, api.ErrWeight},
		{few, math.MinInt, 0, api.ErrWeight},
		{[]api.Pair{{Key: 0, N: top}}, 0, 0, api.ErrWeight},
		{nil, greatest + 1, 1, api.ErrRange},
		{nil, -greatest - 1, 1, api.ErrRange},
		{nil, math.MaxInt, 1, api.ErrRange},
		{nil, math.MinInt, 1, api.ErrRange},
		{nil, 1 << 32, 1, api.ErrRange},
		{nil, greatest + 1, top + 1, api.ErrRange},
		{few, math.MaxInt, math.MaxUint64, api.ErrRange},
		{[]api.Pair{{Key: 0, N: top}}, -greatest - 1, 1, api.ErrRange},
		{nil, 0, top + 1, api.ErrCap},
		{nil, 0, math.MaxUint64, api.ErrCap},
		{few, 5, top - 2, api.ErrCap},
		{few, greatest, top - 2, api.ErrCap},
		{few, -3, math.MaxUint64 - 2, api.ErrCap},
		{[]api.Pair{{Key: 0, N: top}}, 1, 1, api.ErrCap},
	} {
		s := made(t, c.l...)
		wantAdd(t, s, c.k, c.n, c.want)
		hold(t, s, modelOf(c.l...))
		all := append(slices.Clone(c.l), api.Pair{Key: c.k, N: c.n}, api.Pair{Key: 7, N: 1})
		if s, e := sparse.Of(all); s != nil || e != c.want {
			t.Errorf("Of(%d): %v, %d, not %d", all, s, e, c.want)
		}
	}
}

// P14.1: of pairs several of which may not be Of tells the first one's error.
func TestOfRefuses(t *testing.T) {
	for _, c := range []struct {
		l    []api.Pair
		want api.Errno
	}{
		{[]api.Pair{{Key: 9, N: 1}, {Key: greatest + 1, N: 1}, {Key: 1, N: 0}}, api.ErrRange},
		{[]api.Pair{{Key: 9, N: 1}, {Key: 1, N: 0}, {Key: greatest + 1, N: 1}}, api.ErrWeight},
		{[]api.Pair{{Key: 9, N: top}, {Key: 9, N: 1}, {Key: 1, N: 0}}, api.ErrCap},
		{[]api.Pair{{Key: 9, N: top / 2}, {Key: 1, N: top / 2}, {Key: 5, N: 1}}, api.ErrCap},
		{[]api.Pair{{Key: 9, N: 1}, {Key: 1, N: math.MaxUint64}, {Key: -greatest - 1, N: 1}}, api.ErrCap},
	} {
		if s, e := sparse.Of(c.l); s != nil || e != c.want {
			t.Errorf("Of(%d): %v, %d, not %d", c.l, s, e, c.want)
		}
	}
}

// P14.1, P14.3, P14.4: the greatest counts and keys that may be, keys far apart, and again and again.
func TestEdges(t *testing.T) {
	for _, l := range [][]api.Pair{
		{{Key: 0, N: top}},
		{{Key: greatest, N: 1}},
		{{Key: -greatest, N: 1}},
		{{Key: greatest, N: 1}, {Key: -greatest, N: top - 1}},
		{{Key: -greatest, N: 1}, {Key: 0, N: 1}, {Key: greatest, N: top - 2}},
		{{Key: 3, N: top / 2}, {Key: 3, N: top / 2}},
		{{Key: 5, N: 1}, {Key: 4, N: 2}, {Key: 6, N: 3}, {Key: 5, N: 4}, {Key: 4, N: 5}, {Key: 6, N: 6}},
		{{Key: 2, N: 1}, {Key: 1, N: 1}, {Key: 0, N: 1}, {Key: -1, N: 1}},
	} {
		m := modelOf(l...)
		of, e := sparse.Of(l)
		if e != api.OK {
			t.Fatalf("Of(%d): %d", l, e)
		}
		for _, s := range []*sparse.List{made(t, l...), of} {
			hold(t, s, m)
			holdRanks(t, s, m)
		}
	}
}

// P14.2: what comes from another list, which stays as it was, or from the list itself.
func TestTake(t *testing.T) {
	few := []api.Pair{{Key: -3, N: 1}, {Key: 5, N: 3}}
	for _, l := range [][]api.Pair{
		nil, few, {{Key: 0, N: 7}}, {{Key: 5, N: 1}, {Key: 6, N: 2}}, {{Key: greatest, N: 1}}, {{Key: -greatest, N: 1}},
		{{Key: -4, N: 1}, {Key: -3, N: 2}, {Key: 4, N: 3}}, {{Key: -greatest, N: 1}, {Key: greatest, N: top - 5}},
	} {
		for _, both := range [][2][]api.Pair{{few, l}, {l, few}} {
			s, o := made(t, both[0]...), made(t, both[1]...)
			if e := s.Take(o); e != api.OK {
				t.Fatalf("%d takes %d: %d", both[0], both[1], e)
			}
			hold(t, s, modelOf(slices.Concat(both[0], both[1])...))
			hold(t, o, modelOf(both[1]...))
		}
	}
	for _, l := range [][]api.Pair{few, {{Key: -greatest, N: 1}, {Key: greatest, N: 2}}, {{Key: 7, N: top / 2}}} {
		s := made(t, l...)
		if e := s.Take(s); e != api.OK {
			t.Fatalf("%d takes itself: %d", l, e)
		}
		hold(t, s, modelOf(slices.Concat(l, l)...))
	}
}

// P14.2: what isn't taken; nothing is done then.
func TestTakeRefuses(t *testing.T) {
	full := []api.Pair{{Key: 0, N: top}}
	for _, l := range [][]api.Pair{nil, full} {
		s := made(t, l...)
		if e := s.Take(nil); e != api.ErrArg {
			t.Errorf("%d: Take(nil): %d", l, e)
		}
		hold(t, s, modelOf(l...))
	}
	few := []api.Pair{{Key: -3, N: 1}, {Key: 5, N: 3}}
	for _, c := range [][2][]api.Pair{
		{few, {{Key: 0, N: 1}, {Key: 1, N: top - 4}}},
		{few, full},
		{full, {{Key: 0, N: 1}}},
		{full, full},
		{{{Key: 1, N: top - 3}}, few},
	} {
		s, o := made(t, c[0]...), made(t, c[1]...)
		if e := s.Take(o); e != api.ErrCap {
			t.Errorf("%d takes %d: %d", c[0], c[1], e)
		}
		hold(t, s, modelOf(c[0]...))
		hold(t, o, modelOf(c[1]...))
	}
	s := made(t, api.Pair{Key: 1, N: top / 2}, api.Pair{Key: 2, N: 1})
	if e := s.Take(s); e != api.ErrCap {
		t.Errorf("a list takes itself: %d", e)
	}
	hold(t, s, model{1: top / 2, 2: 1})
}

// P14.3, P14.4: each thing of a row, by its rank and by its key.
func TestRow(t *testing.T) {
	s := made(t, api.Pair{Key: 12, N: 3}, api.Pair{Key: -7, N: 1}, api.Pair{Key: 0, N: 2}, api.Pair{Key: 13, N: 4})
	row := []int{-7, 0, 0, 12, 12, 12, 13, 13, 13, 13}
	for i, want := range row {
		if k, e := s.Key(uint64(i + 1)); k != want || e != api.OK {
			t.Errorf("Key(%d): %d, %d, not %d", i+1, k, e, want)
		}
	}
	for _, r := range []uint64{0, 11, 12, top, top + 1, math.MaxUint64} {
		if k, e := s.Key(r); k != 0 || e != api.ErrArg {
			t.Errorf("Key(%d): %d, %d", r, k, e)
		}
	}
	for k := -10; k < 20; k++ {
		below, upto := uint64(0), uint64(0)
		for _, key := range row {
			if key < k {
				below++
			}
			if key <= k {
				upto++
			}
		}
		if a, b := s.Below(k), s.Upto(k); a != below || b != upto {
			t.Errorf("Below(%d): %d, not %d; Upto: %d, not %d", k, a, below, b, upto)
		}
	}
	for _, r := range []uint64{0, 1, math.MaxUint64} {
		if k, e := new(sparse.List).Key(r); k != 0 || e != api.ErrEmpty {
			t.Errorf("Key(%d) of none: %d, %d", r, k, e)
		}
	}
}

// P14.5: what is cut, and what isn't, with as many keys, fewer and more, and with m below 1.
func TestCut(t *testing.T) {
	l := []api.Pair{{Key: -greatest, N: 1}, {Key: -3, N: 20}, {Key: 0, N: 300}, {Key: 5, N: 4000}, {Key: greatest, N: top - 50000}}
	for _, m := range []int{math.MinInt, -5, -1, 0, 1, 2, 3, 4, 5, 6, greatest, math.MaxInt} {
		wantCut(t, made(t, l...), modelOf(l...), m)
	}
	s := made(t, l...)
	if n := s.Cut(3); n != 21 {
		t.Errorf("Cut(3): %d", n)
	}
	hold(t, s, model{0: 321, 5: 4000, greatest: top - 50000})
	if n := s.Cut(3); n != 0 {
		t.Errorf("Cut(3) again: %d", n)
	}
	wantAdd(t, s, -3, 7, api.OK)
	holdRanks(t, s, model{-3: 7, 0: 321, 5: 4000, greatest: top - 50000})
	if n := s.Cut(0); n != 4328 {
		t.Errorf("Cut(0): %d", n)
	}
	hold(t, s, model{greatest: top - 50000 + 4328})
}

// P14.1 to P14.5: whatever is done to some lists, one behind the other, they answer what the chapter's words say.
func TestAnyActs(t *testing.T) {
	for seed := range int64(60) {
		dice := rand.New(rand.NewSource(seed))
		lists := []*sparse.List{{}, {}, {}}
		models := []model{{}, {}, {}}
		for range 150 {
			i, j := dice.Intn(3), dice.Intn(3)
			s, m := lists[i], models[i]
			switch dice.Intn(20) {
			case 0, 1, 2:
				want := m.take(models[j])
				if e := s.Take(lists[j]); e != want {
					t.Fatalf("seed %d: Take: %d, not %d", seed, e, want)
				}
			case 3, 4:
				wantCut(t, s, m, dice.Intn(22)-2)
			default:
				k, n := anyKey(dice), anyCount(dice)
				wantAdd(t, s, k, n, m.add(k, n))
			}
			for i, s := range lists {
				hold(t, s, models[i])
			}
		}
		for i, s := range lists {
			holdRanks(t, s, models[i])
		}
	}
}

// P14.1: Of is what Add does, pair by pair, in whatever order they come, and whichever is refused.
func TestOfAny(t *testing.T) {
	dice := rand.New(rand.NewSource(7))
	for range 300 {
		l := shuffled(dice, anyPairs(dice, 100))
		if dice.Intn(2) == 0 {
			l = append(l, api.Pair{Key: anyKey(dice), N: anyCount(dice)}, api.Pair{Key: anyKey(dice), N: anyCount(dice)})
		}
		m, want := model{}, api.OK
		for i := 0; i < len(l) && want == api.OK; i++ {
			want = m.add(l[i].Key, l[i].N)
		}
		given := slices.Clone(l)
		s, e := sparse.Of(l)
		if e != want || (s == nil) != (e != api.OK) {
			t.Fatalf("Of(%d): %v, %d, not %d", l, s, e, want)
		}
		if !slices.Equal(l, given) {
			t.Fatalf("Of made %d of %d", l, given)
		}
		if s != nil {
			hold(t, s, m)
			holdRanks(t, s, m)
		}
	}
}

// P14.6: a key of a rank has fewer things below it than the rank, and no fewer up to it; cut, the total is what it was, the greatest keys too, and no rank's key is less.
func TestWhatFollows(t *testing.T) {
	dice := rand.New(rand.NewSource(8))
	for range 200 {
		s := made(t, anyPairs(dice, 40)...)
		before, total, l := s.Pairs(), s.Total(), s.Pairs()
		if total == 0 {
			continue
		}
		ranks, keys := []uint64{1, total}, []int{}
		for range 50 {
			ranks = append(ranks, 1+dice.Uint64()%total)
		}
		for _, r := range ranks {
			k, e := s.Key(r)
			if e != api.OK || s.Below(k) >= r || s.Upto(k) < r {
				t.Fatalf("Key(%d): %d, %d: %d below, %d up to it", r, k, e, s.Below(k), s.Upto(k))
			}
			keys = append(keys, k)
		}
		m := 1 + dice.Intn(len(before)+1)
		s.Cut(m)
		if l = s.Pairs(); s.Total() != total || len(l) != min(m, len(before)) {
			t.Fatalf("Cut(%d) of %d: %d, %d in all", m, before, l, s.Total())
		}
		if kept := before[len(before)-len(l):]; l[0].Key != kept[0].Key || !slices.Equal(l[1:], kept[1:]) {
			t.Fatalf("Cut(%d) of %d: %d", m, before, l)
		}
		for i, r := range ranks {
			if k, e := s.Key(r); e != api.OK || k < keys[i] || k != max(keys[i], l[0].Key) {
				t.Fatalf("Key(%d): %d, %d, which was %d", r, k, e, keys[i])
			}
		}
	}
}

// P14.1: many keys, from either side, from the midst and in any order.
func TestMany(t *testing.T) {
	const many = 20000
	dice := rand.New(rand.NewSource(9))
	for name, key := range map[string]func(int) int{
		"up":   func(i int) int { return i * 100 },
		"down": func(i int) int { return -i * 100 },
		"both": func(i int) int { return (i + 1) / 2 * (1 - i%2*2) },
	} {
		var l []api.Pair
		for i := range many {
			l = append(l, api.Pair{Key: max(min(key(i), greatest), -greatest), N: uint64(i + 1)})
		}
		m := modelOf(l...)
		hold(t, made(t, l...), m)
		s, e := sparse.Of(shuffled(dice, l))
		if e != api.OK {
			t.Fatalf("%s: Of: %d", name, e)
		}
		hold(t, s, m)
		if n := s.Cut(10); n != m.cut(10) {
			t.Errorf("%s: Cut: %d", name, n)
		}
		hold(t, s, m)
	}
}

// P14.1 to P14.3: an answer is new memory; what is handed in is neither changed nor kept.
func TestAnswers(t *testing.T) {
	room := []api.Pair{{Key: 2, N: 2}, {Key: 1, N: 1}, {Key: 2, N: 3}, {Key: 77, N: 7}}
	given := slices.Clone(room)
	s, e := sparse.Of(room[:3])
	if e != api.OK {
		t.Fatalf("Of: %d", e)
	}
	wantAdd(t, s, 0, 4, api.OK)
	if !slices.Equal(room, given) {
		t.Errorf("Of and Add made %d of %d", room, given)
	}
	room[0], room[1] = api.Pair{Key: 5, N: 5}, api.Pair{Key: 6, N: 6}
	hold(t, s, model{0: 4, 1: 1, 2: 5})
	var o, u sparse.List
	if o.Take(s) != api.OK || u.Take(s) != api.OK {
		t.Fatal("Take")
	}
	l, other := s.Pairs(), s.Pairs()
	l[0] = api.Pair{Key: 9, N: 9}
	_ = append(l[:1], api.Pair{})
	hold(t, s, model{0: 4, 1: 1, 2: 5})
	if !slices.Equal(other, []api.Pair{{Key: 0, N: 4}, {Key: 1, N: 1}, {Key: 2, N: 5}}) {
		t.Errorf("another answer is %d", other)
	}
	wantAdd(t, s, 1, 5, api.OK)
	s.Cut(1)
	hold(t, s, model{2: 15})
	hold(t, &o, model{0: 4, 1: 1, 2: 5})
	wantAdd(t, &o, -1, 1, api.OK)
	o.Cut(2)
	hold(t, &o, model{1: 6, 2: 5})
	hold(t, &u, model{0: 4, 1: 1, 2: 5})
}
