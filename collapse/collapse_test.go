package collapse_test

import (
	"math"
	"math/rand"
	"slices"
	"testing"

	"theodolite/api"
	"theodolite/collapse"
)

// few are keys of which a budget of 2 keeps 5 and 9, with 3 folded.
var few = []api.Pair{{Key: 9, N: 4}, {Key: -3, N: 1}, {Key: 5, N: 7}, {Key: 1, N: 2}}

// P15.1 to P15.4: the chapter's examples.
func TestExamples(t *testing.T) {
	s := empty(t, 2)
	for _, k := range []int{1, 5, 9} {
		wantAdd(t, s, k, 1, api.OK)
	}
	want := func(l []api.Pair, folded uint64) {
		t.Helper()
		if got := s.Pairs(); !slices.Equal(got, l) || s.Folded() != folded {
			t.Errorf("Pairs: %d, Folded: %d", got, s.Folded())
		}
	}
	want([]api.Pair{{Key: 5, N: 2}, {Key: 9, N: 1}}, 1)
	if k, vague, e := s.Key(1); k != 5 || !vague || e != api.OK {
		t.Errorf("Key(1): %d, %t, %d", k, vague, e)
	}
	if k, vague, e := s.Key(3); k != 9 || vague || e != api.OK {
		t.Errorf("Key(3): %d, %t, %d", k, vague, e)
	}
	wantAdd(t, s, 3, 4, api.OK)
	want([]api.Pair{{Key: 5, N: 6}, {Key: 9, N: 1}}, 5)
}

// P15.1: which budgets may be, and a store that has counted nothing.
func TestNew(t *testing.T) {
	for _, m := range []int{2, 3, 4095, 4096} {
		s := empty(t, m)
		hold(t, s, modelOf(m))
		holdRanks(t, s, modelOf(m))
	}
	for _, m := range []int{math.MinInt, -4096, -2, -1, 0, 1, 4097, 1<<32 + 2, math.MaxInt} {
		if s, e := collapse.New(m); s != nil || e != api.ErrArg {
			t.Errorf("New(%d): %v, %d", m, s, e)
		}
	}
}

// P15.2: which error Add tells, where several apply; a refused key changes nothing, a lesser one than all neither.
func TestAddRefuses(t *testing.T) {
	full := []api.Pair{{Key: 0, N: top}}
	for _, c := range []struct {
		l    []api.Pair
		k    int
		n    uint64
		want api.Errno
	}{
		{nil, 0, 0, api.ErrWeight},
		{nil, greatest + 1, 0, api.ErrWeight},
		{few, math.MinInt, 0, api.ErrWeight},
		{full, 0, 0, api.ErrWeight},
		{nil, greatest + 1, 1, api.ErrRange},
		{few, -greatest - 1, 1, api.ErrRange},
		{few, math.MinInt, 1, api.ErrRange},
		{few, math.MaxInt, math.MaxUint64, api.ErrRange},
		{full, -greatest - 1, 1, api.ErrRange},
		{nil, 0, top + 1, api.ErrCap},
		{nil, 0, math.MaxUint64, api.ErrCap},
		{few, -7, top - 13, api.ErrCap},
		{few, 5, top - 13, api.ErrCap},
		{few, 6, top - 13, api.ErrCap},
		{few, greatest, math.MaxUint64, api.ErrCap},
		{full, 1, 1, api.ErrCap},
	} {
		s := made(t, 2, c.l...)
		wantAdd(t, s, c.k, c.n, c.want)
		hold(t, s, modelOf(2, c.l...))
		holdRanks(t, s, modelOf(2, c.l...))
	}
}

// P15.2, P15.3: what comes to a store that keeps as many keys as it may, or one fewer, at each place beside its own ones.
func TestAdd(t *testing.T) {
	for _, l := range [][]api.Pair{nil, few[:1], few[:2], few[:3], few} {
		for k := -5; k < 12; k++ {
			for _, budget := range []int{2, 3, 4, 5} {
				s, m := made(t, budget, l...), modelOf(budget, l...)
				for _, key := range []int{k, k, k + 1, -greatest, greatest} {
					wantAdd(t, s, key, 10, m.add(key, 10))
					hold(t, s, m)
					holdRanks(t, s, m)
				}
			}
		}
	}
}

// P15.2 to P15.4: the greatest counts and keys that may be.
func TestEdges(t *testing.T) {
	for _, l := range [][]api.Pair{
		{{Key: 0, N: top}},
		{{Key: greatest, N: 1}, {Key: -greatest, N: top - 1}},
		{{Key: -greatest, N: 1}, {Key: greatest - 1, N: 1}, {Key: greatest, N: top - 2}},
		{{Key: -greatest, N: top - 2}, {Key: 1 - greatest, N: 1}, {Key: 2 - greatest, N: 1}},
		{{Key: greatest, N: 1}, {Key: 0, N: 1}, {Key: 1, N: top - 2}},
		{{Key: 3, N: top / 2}, {Key: 4, N: 1}, {Key: 5, N: 1}, {Key: 3, N: top/2 - 2}},
	} {
		s := made(t, 2, l...)
		hold(t, s, modelOf(2, l...))
		holdRanks(t, s, modelOf(2, l...))
		holdRanks(t, loaded(t, s), modelOf(2, l...))
	}
}

// P15.2, P15.6: what comes from another store, which stays as it was, or from the store itself.
func TestTake(t *testing.T) {
	lists := [][]api.Pair{
		nil, few[:1], few[:2], few[:3], few,
		{{Key: -9, N: 1}, {Key: -8, N: 2}, {Key: -7, N: 3}},
		{{Key: 5, N: 10}, {Key: 9, N: 20}, {Key: 4, N: 30}},
		{{Key: 7, N: 10}, {Key: 9, N: 20}, {Key: 6, N: 30}, {Key: 5, N: 40}},
		{{Key: 20, N: 1}, {Key: 21, N: 2}, {Key: 22, N: 3}},
		{{Key: -greatest, N: 1}, {Key: greatest, N: top - 150}},
	}
	for _, a := range lists {
		for _, b := range lists {
			for budget := 2; budget < 9; budget++ {
				s, o, m := made(t, budget, a...), made(t, budget, b...), modelOf(budget, a...)
				wantTake(t, s, o, m.take(modelOf(budget, b...)))
				hold(t, s, m)
				holdRanks(t, s, m)
				hold(t, o, modelOf(budget, b...))
			}
		}
		s, m := made(t, 2, a...), modelOf(2, a...)
		wantTake(t, s, s, m.take(m))
		hold(t, s, m)
		holdRanks(t, s, m)
	}
}

// P15.2: what isn't taken, and why, where several apply; nothing is done then.
func TestTakeRefuses(t *testing.T) {
	full := []api.Pair{{Key: 0, N: top}}
	for _, l := range [][]api.Pair{nil, few, full} {
		s := made(t, 2, l...)
		wantNone := func(o *collapse.Store, want api.Errno) {
			t.Helper()
			if e := s.Take(o); e != want {
				t.Errorf("%d: Take: %d, not %d", l, e, want)
			}
			hold(t, s, modelOf(2, l...))
			holdRanks(t, s, modelOf(2, l...))
		}
		wantNone(nil, api.ErrArg)
		wantNone(empty(t, 3), api.ErrKind)
		wantNone(made(t, 4096, few...), api.ErrKind)
		wantNone(made(t, 3, full...), api.ErrKind)
		if l != nil {
			o := made(t, 2, api.Pair{Key: 20, N: 1}, api.Pair{Key: 21, N: top - 14}, api.Pair{Key: 22, N: 1})
			wantNone(o, api.ErrCap)
			wantNone(made(t, 2, full...), api.ErrCap)
			hold(t, o, modelOf(2, api.Pair{Key: 20, N: 1}, api.Pair{Key: 21, N: top - 14}, api.Pair{Key: 22, N: 1}))
		}
	}
	s := made(t, 2, full...)
	wantTake(t, s, s, api.ErrCap)
	hold(t, s, modelOf(2, full...))
}

// P15.3, P15.4: each thing of a row, by its rank and by its key; of the least key they are vague just if something is folded.
func TestRow(t *testing.T) {
	for _, c := range []struct {
		budget int
		row    []int
		vague  int
	}{
		{2, []int{5, 5, 5, 5, 5, 5, 5, 5, 5, 5, 9, 9, 9, 9}, 5},
		{3, []int{1, 1, 1, 5, 5, 5, 5, 5, 5, 5, 9, 9, 9, 9}, 1},
		{4, []int{-3, 1, 1, 5, 5, 5, 5, 5, 5, 5, 9, 9, 9, 9}, math.MinInt},
	} {
		s := made(t, c.budget, few...)
		for i, want := range c.row {
			if k, vague, e := s.Key(uint64(i + 1)); k != want || vague != (want == c.vague) || e != api.OK {
				t.Errorf("%d: Key(%d): %d, %t, %d", c.budget, i+1, k, vague, e)
			}
		}
		for _, r := range []uint64{0, 15, 16, top, math.MaxUint64} {
			if k, vague, e := s.Key(r); k != 0 || vague || e != api.ErrArg {
				t.Errorf("%d: Key(%d): %d, %t, %d", c.budget, r, k, vague, e)
			}
		}
		if a, b := s.Below(5), s.Upto(5); a != sum(s.Pairs(), func(k int) bool { return k < 5 }) || b != 10 {
			t.Errorf("%d: Below(5): %d, Upto(5): %d", c.budget, a, b)
		}
	}
	for _, r := range []uint64{0, 1, math.MaxUint64} {
		if k, vague, e := empty(t, 2).Key(r); k != 0 || vague || e != api.ErrEmpty {
			t.Errorf("Key(%d) of none: %d, %t, %d", r, k, vague, e)
		}
	}
}

// P15.2 to P15.5: whatever is done to some stores, one behind the other, they answer what the chapter's words say; so do those that are loaded on the way.
func TestAnyActs(t *testing.T) {
	for seed := range int64(80) {
		dice := rand.New(rand.NewSource(seed))
		stores, models := []*collapse.Store{}, []model{}
		budget := 2 + dice.Intn(12)
		for _, b := range []int{budget, budget, budget, 2 + dice.Intn(12)} {
			stores, models = append(stores, empty(t, b)), append(models, modelOf(b))
		}
		for range 150 {
			i, j := dice.Intn(4), dice.Intn(4)
			switch dice.Intn(20) {
			case 0, 1:
				wantTake(t, stores[i], stores[j], models[i].take(models[j]))
			case 2:
				stores[i] = loaded(t, stores[i])
			case 3:
				stores[i], models[i] = empty(t, models[i].budget), modelOf(models[i].budget)
			default:
				k, n := anyKey(dice), anyCount(dice)
				wantAdd(t, stores[i], k, n, models[i].add(k, n))
			}
			for i, s := range stores {
				hold(t, s, models[i])
			}
		}
		for i, s := range stores {
			holdRanks(t, s, models[i])
		}
	}
}

// P15.6: in what order keys come, and by how many stores, makes no difference.
func TestAnyOrder(t *testing.T) {
	dice := rand.New(rand.NewSource(5))
	for range 300 {
		l, budget := anyPairs(dice, 60), 2+dice.Intn(20)
		want := made(t, budget, l...)
		hold(t, want, modelOf(budget, l...))
		stores := []*collapse.Store{}
		for range 1 + dice.Intn(6) {
			stores = append(stores, empty(t, budget))
		}
		for _, p := range shuffled(dice, l) {
			wantAdd(t, stores[dice.Intn(len(stores))], p.Key, p.N, api.OK)
		}
		for len(stores) > 1 {
			i := dice.Intn(len(stores) - 1)
			wantTake(t, stores[i], stores[i+1], api.OK)
			stores = slices.Delete(stores, i+1, i+2)
		}
		if !slices.Equal(stores[0].Pairs(), want.Pairs()) || stores[0].Folded() != want.Folded() {
			t.Fatalf("%d of %d: %d, %d, not %d, %d", budget, l, stores[0].Pairs(), stores[0].Folded(), want.Pairs(), want.Folded())
		}
	}
}

// P15.6: a key that isn't vague is that of the thing of that rank among all that was counted; one that is vague isn't less than it.
func TestWhatFollows(t *testing.T) {
	dice := rand.New(rand.NewSource(6))
	vagues := 0
	for range 300 {
		l, budget := anyPairs(dice, 60), 2+dice.Intn(20)
		s, all := made(t, budget, l...), made(t, 4096, l...)
		if all.Folded() != 0 || all.Total() == 0 {
			continue
		}
		for range 50 {
			r := 1 + dice.Uint64()%all.Total()
			x, _ := key(all.Pairs(), r)
			k, vague, e := s.Key(r)
			if e != api.OK || k < x || !vague && k != x {
				t.Fatalf("%d of %d: Key(%d): %d, %t, %d, not %d", budget, l, r, k, vague, e, x)
			}
			if vague {
				vagues++
			}
		}
	}
	if vagues == 0 {
		t.Error("nothing was vague")
	}
}

// P15.2, P15.6: the greatest budget, with more keys than that, from either side and in any order.
func TestMany(t *testing.T) {
	const budget, many = 4096, 12000
	dice := rand.New(rand.NewSource(7))
	var l []api.Pair
	for i := range many {
		l = append(l, api.Pair{Key: i*100 - greatest/2, N: uint64(i + 1)})
	}
	want := made(t, budget, l...)
	hold(t, want, modelOf(budget, l...))
	down := slices.Clone(l)
	slices.Reverse(down)
	for _, l := range [][]api.Pair{down, shuffled(dice, l)} {
		if s := made(t, budget, l...); !slices.Equal(s.Pairs(), want.Pairs()) || s.Folded() != want.Folded() {
			t.Errorf("%d keys, %d folded", s.Len(), s.Folded())
		}
		s, o := made(t, budget, l[:many/2]...), made(t, budget, l[many/2:]...)
		wantTake(t, s, o, api.OK)
		if !slices.Equal(s.Pairs(), want.Pairs()) || s.Folded() != want.Folded() {
			t.Errorf("taken: %d keys, %d folded", s.Len(), s.Folded())
		}
	}
}

// P15.2, P15.3: an answer is new memory; what is taken isn't kept.
func TestAnswers(t *testing.T) {
	s, o := made(t, 2, few...), empty(t, 2)
	wantTake(t, o, s, api.OK)
	l, other := s.Pairs(), s.Pairs()
	l[0] = api.Pair{Key: 9, N: 9}
	_ = append(l[:1], api.Pair{})
	hold(t, s, modelOf(2, few...))
	if !slices.Equal(other, []api.Pair{{Key: 5, N: 10}, {Key: 9, N: 4}}) {
		t.Errorf("another answer is %d", other)
	}
	wantAdd(t, s, 5, 5, api.OK)
	wantAdd(t, s, 7, 1, api.OK)
	hold(t, o, modelOf(2, few...))
	wantAdd(t, o, 9, 1, api.OK)
	hold(t, s, modelOf(2, append(slices.Clone(few), api.Pair{Key: 5, N: 5}, api.Pair{Key: 7, N: 1})...))
}
