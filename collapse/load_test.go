package collapse_test

import (
	"math"
	"math/rand"
	"slices"
	"testing"

	"theodolite/api"
	"theodolite/collapse"
)

// rows are this many pairs with keys from one on, each counted twice.
func rows(least, many int) []api.Pair {
	var l []api.Pair
	for i := range many {
		l = append(l, api.Pair{Key: least + i, N: 2})
	}
	return l
}

// P15.5: what a store keeps is loaded, and tells what was handed in.
func TestLoad(t *testing.T) {
	for _, c := range []struct {
		m      int
		l      []api.Pair
		folded uint64
	}{
		{2, nil, 0},
		{2, []api.Pair{}, 0},
		{4096, nil, 0},
		{2, rows(5, 1), 0},
		{2, rows(5, 2), 0},
		{2, rows(5, 2), 1},
		{3, rows(-greatest, 3), 0},
		{3, rows(-greatest+1, 3), 1},
		{3, rows(greatest-2, 3), 1},
		{4096, rows(0, 4095), 0},
		{4096, rows(0, 4096), 0},
		{4096, rows(0, 4096), 1},
		{2, []api.Pair{{Key: -greatest, N: 1}, {Key: greatest, N: top - 1}}, 0},
		{2, []api.Pair{{Key: -5, N: top - 1}, {Key: greatest, N: 1}}, top - 2},
		{2, []api.Pair{{Key: -5, N: 1}, {Key: 0, N: top - 1}}, 0},
	} {
		s, e := collapse.Load(c.m, c.l, c.folded)
		if s == nil || e != api.OK {
			t.Errorf("Load(%d, %d, %d): %v, %d", c.m, c.l, c.folded, s, e)
			continue
		}
		if b, l, n := s.Budget(), s.Pairs(), s.Folded(); b != c.m || !slices.Equal(l, c.l) || n != c.folded {
			t.Errorf("Load(%d, %d, %d): %d, %d, %d", c.m, c.l, c.folded, b, l, n)
		}
		if all := sum(c.l, func(int) bool { return true }); s.Total() != all || s.Len() != len(c.l) {
			t.Errorf("Load(%d, %d, %d): %d in all, %d keys", c.m, c.l, c.folded, s.Total(), s.Len())
		}
		if len(c.l) > 0 {
			if k, vague, e := s.Key(1); k != c.l[0].Key || vague != (c.folded > 0) || e != api.OK {
				t.Errorf("Load(%d, %d, %d): Key(1): %d, %t, %d", c.m, c.l, c.folded, k, vague, e)
			}
		}
	}
}

// P15.5: what no store of the budget keeps is refused.
func TestLoadRefuses(t *testing.T) {
	for name, c := range map[string]struct {
		m      int
		l      []api.Pair
		folded uint64
	}{
		"no budget":                 {1, rows(5, 1), 0},
		"no budget, none":           {0, nil, 0},
		"below 0":                   {-2, nil, 0},
		"too great a budget":        {4097, rows(0, 2), 0},
		"the greatest number":       {math.MaxInt, nil, 0},
		"a key twice":               {3, []api.Pair{{Key: 5, N: 1}, {Key: 5, N: 1}}, 0},
		"keys fall":                 {3, []api.Pair{{Key: 5, N: 1}, {Key: 4, N: 1}}, 0},
		"the last one falls":        {3, []api.Pair{{Key: 4, N: 9}, {Key: 6, N: 1}, {Key: 5, N: 1}}, 0},
		"the last one twice":        {3, []api.Pair{{Key: 4, N: 9}, {Key: 6, N: 1}, {Key: 6, N: 1}}, 1},
		"one isn't counted":         {3, []api.Pair{{Key: 4, N: 1}, {Key: 5, N: 0}, {Key: 6, N: 1}}, 0},
		"the first isn't":           {2, []api.Pair{{Key: 4, N: 0}, {Key: 5, N: 1}}, 0},
		"too little a key":          {2, rows(-greatest-1, 1), 0},
		"too great a key":           {2, rows(greatest, 2), 0},
		"the least number":          {2, rows(math.MinInt, 2), 0},
		"too many in one":           {2, []api.Pair{{Key: 1, N: top + 1}}, 0},
		"too many in all":           {2, []api.Pair{{Key: 1, N: top}, {Key: 2, N: 1}}, 0},
		"too many, and round":       {2, []api.Pair{{Key: 1, N: math.MaxUint64}, {Key: 2, N: 2}}, 0},
		"too many keys":             {2, rows(5, 3), 0},
		"too many keys, folded":     {2, rows(5, 3), 1},
		"more than 4096":            {4096, rows(0, 4097), 0},
		"folded of none":            {2, nil, 1},
		"folded of one":             {2, rows(5, 1), 1},
		"folded of one too few":     {4096, rows(0, 4095), 1},
		"folded as much":            {2, rows(5, 2), 2},
		"folded more":               {2, rows(5, 2), 3},
		"folded as much as the 2nd": {2, []api.Pair{{Key: 5, N: 2}, {Key: 6, N: 9}}, 2},
		"folded, any":               {2, rows(5, 2), math.MaxUint64},
		"folded all":                {2, []api.Pair{{Key: 5, N: top - 1}, {Key: 6, N: 1}}, top - 1},
		"folded below all keys":     {2, rows(-greatest, 2), 1},
	} {
		given := slices.Clone(c.l)
		if s, e := collapse.Load(c.m, c.l, c.folded); s != nil || e != api.ErrArg {
			t.Errorf("%s: %v, %d", name, s, e)
		}
		if !slices.Equal(c.l, given) {
			t.Errorf("%s: Load made %d of %d", name, c.l, given)
		}
	}
}

// P15.5, P15.6: what was loaded goes on as what it was loaded from.
func TestLoadGoesOn(t *testing.T) {
	dice := rand.New(rand.NewSource(3))
	for range 300 {
		budget := 2 + dice.Intn(12)
		l, more, other := anyPairs(dice, 40), anyPairs(dice, 20), anyPairs(dice, 20)
		m := modelOf(budget, l...)
		s, o := loaded(t, made(t, budget, l...)), loaded(t, made(t, budget, other...))
		hold(t, s, m)
		holdRanks(t, s, m)
		for _, p := range more {
			wantAdd(t, s, p.Key, p.N, m.add(p.Key, p.N))
			hold(t, s, m)
		}
		wantTake(t, s, o, m.take(modelOf(budget, other...)))
		hold(t, s, m)
		holdRanks(t, s, m)
	}
}

// P15.5: what is handed in is neither changed nor kept, its spare room neither.
func TestLoadKeepsNone(t *testing.T) {
	room := append(rows(5, 3), api.Pair{Key: 99, N: 9}, api.Pair{Key: 98, N: 8})
	given := slices.Clone(room)
	s, e := collapse.Load(3, room[:3], 1)
	if e != api.OK {
		t.Fatalf("Load: %d", e)
	}
	for _, k := range []int{7, 4, 8, 6} {
		wantAdd(t, s, k, 1, api.OK)
	}
	if !slices.Equal(room, given) {
		t.Errorf("Load and Add made %d of %d", room, given)
	}
	clear(room)
	if l := s.Pairs(); !slices.Equal(l, []api.Pair{{Key: 6, N: 6}, {Key: 7, N: 3}, {Key: 8, N: 1}}) || s.Folded() != 3 {
		t.Errorf("Pairs: %d, Folded: %d", l, s.Folded())
	}
}
