package dd_test

import (
	"math"
	"math/rand"
	"slices"
	"testing"

	"theodolite/api"
	"theodolite/dd"
)

// rows are this many pairs with keys from one on, each counted twice.
func rows(from, many int) []api.Pair {
	var l []api.Pair
	for i := range many {
		l = append(l, api.Pair{Key: from + i, N: 2})
	}
	return l
}

// P20.3: what a sketch's store keeps is loaded, up to the scale's own ends (40 ranges of the accuracy 5000, 2050 of 100), and tells what was handed in.
func TestLoad(t *testing.T) {
	for _, c := range []struct {
		a, m   int
		l      []api.Pair
		folded uint64
	}{
		{5000, 2, nil, 0},
		{5000, 2, []api.Pair{}, 0},
		{100, 4096, nil, 0},
		{5000, 2, rows(0, 1), 0},
		{5000, 2, rows(0, 2), 0},
		{5000, 2, rows(0, 2), 1},
		{5000, 2, rows(40, 1), 0},
		{5000, 2, rows(-40, 1), 0},
		{5000, 2, rows(39, 2), 1},
		{5000, 2, rows(-40, 2), 0},
		{5000, 2, rows(-39, 2), 1},
		{5000, 81, rows(-40, 81), 0},
		{5000, 80, rows(-39, 80), 1},
		{5000, 2, []api.Pair{{Key: -40, N: 1}, {Key: 40, N: most - 1}}, 0},
		{5000, 2, []api.Pair{{Key: -39, N: most - 1}, {Key: 40, N: 1}}, most - 2},
		{100, 2, []api.Pair{{Key: -2050, N: 1}, {Key: 2050, N: 1}}, 0},
		{100, 2, []api.Pair{{Key: -2049, N: 2}, {Key: 2050, N: 1}}, 1},
		{100, 4096, rows(-2045, 4096), 0},
		{100, 4096, rows(-2045, 4096), 1},
	} {
		s, e := dd.Load(c.a, c.m, c.l, c.folded)
		if s == nil || e != api.OK {
			t.Errorf("Load(%d, %d, %d, %d): %v, %d", c.a, c.m, c.l, c.folded, s, e)
			continue
		}
		all := uint64(0)
		for _, p := range c.l {
			all += p.N
		}
		if s.Accuracy() != c.a || s.Budget() != c.m || !slices.Equal(s.Pairs(), c.l) || s.Folded() != c.folded || s.Total() != all {
			t.Errorf("Load(%d, %d, %d, %d): %d, %d, %d, %d, %d", c.a, c.m, c.l, c.folded, s.Accuracy(), s.Budget(), s.Pairs(), s.Folded(), s.Total())
		}
		if len(c.l) == 0 {
			continue
		}
		want := modelOf(c.a, c.m).place(c.l[0].Key).middle
		if v, vague, e := s.At(0, 1); v != want || vague != (c.folded > 0) || e != api.OK {
			t.Errorf("Load(%d, %d, %d, %d): At(0, 1): %d, %t, %d", c.a, c.m, c.l, c.folded, v, vague, e)
		}
	}
}

// P20.3: what no sketch's store keeps is refused.
func TestLoadRefuses(t *testing.T) {
	for name, c := range map[string]struct {
		a, m   int
		l      []api.Pair
		folded uint64
	}{
		"no accuracy":                 {99, 2, rows(0, 2), 0},
		"no accuracy, too great":      {5001, 2, rows(0, 2), 1},
		"no budget":                   {5000, 1, rows(0, 1), 0},
		"no budget, too great":        {100, 4097, rows(0, 2), 0},
		"a key above the scale's":     {5000, 2, rows(41, 1), 0},
		"the last one above":          {5000, 2, rows(40, 2), 0},
		"the last one above, folded":  {5000, 2, rows(40, 2), 1},
		"a key below the scale's":     {5000, 2, rows(-41, 1), 0},
		"the first one below":         {5000, 2, rows(-41, 2), 0},
		"both":                        {5000, 2, []api.Pair{{Key: -41, N: 1}, {Key: 41, N: 1}}, 0},
		"above, finest":               {100, 3, rows(2049, 3), 0},
		"below, finest":               {100, 3, rows(-2051, 3), 0},
		"all of a store's keys":       {5000, 2, rows(-1<<20, 2), 0},
		"a store's greatest":          {5000, 2, rows(1<<20-1, 2), 0},
		"the greatest number":         {5000, 2, rows(math.MaxInt, 1), 0},
		"the least number":            {5000, 2, rows(math.MinInt, 1), 0},
		"the least number, folded":    {5000, 2, rows(math.MinInt, 2), 1},
		"folded below the scale's":    {5000, 2, rows(-40, 2), 1},
		"folded below the finest":     {100, 2, rows(-2050, 2), 1},
		"folded below all of them":    {5000, 81, rows(-40, 81), 1},
		"a key twice":                 {5000, 3, []api.Pair{{Key: 5, N: 1}, {Key: 5, N: 1}}, 0},
		"keys fall":                   {5000, 3, []api.Pair{{Key: 5, N: 1}, {Key: 4, N: 1}}, 0},
		"a key beyond between others": {5000, 3, []api.Pair{{Key: 1, N: 1}, {Key: 50, N: 1}, {Key: 2, N: 1}}, 0},
		"one isn't counted":           {5000, 3, []api.Pair{{Key: 4, N: 1}, {Key: 5, N: 0}, {Key: 6, N: 1}}, 0},
		"too many in one":             {5000, 2, []api.Pair{{Key: 1, N: most + 1}}, 0},
		"too many in all":             {5000, 2, []api.Pair{{Key: 1, N: most}, {Key: 2, N: 1}}, 0},
		"too many, and round":         {5000, 2, []api.Pair{{Key: 1, N: math.MaxUint64}, {Key: 2, N: 2}}, 0},
		"too many keys":               {5000, 2, rows(5, 3), 0},
		"too many keys, folded":       {5000, 2, rows(5, 3), 1},
		"folded of none":              {5000, 2, nil, 1},
		"folded of one":               {5000, 2, rows(5, 1), 1},
		"folded as much":              {5000, 2, rows(5, 2), 2},
		"folded more":                 {5000, 2, rows(5, 2), 3},
		"folded, any":                 {5000, 2, rows(5, 2), math.MaxUint64},
	} {
		given := slices.Clone(c.l)
		if s, e := dd.Load(c.a, c.m, c.l, c.folded); s != nil || e != api.ErrArg {
			t.Errorf("%s: %v, %d", name, s, e)
		}
		if !slices.Equal(c.l, given) {
			t.Errorf("%s: Load made %d of %d", name, c.l, given)
		}
	}
}

// P20.3, P20.7: what was loaded goes on as what it was loaded from.
func TestLoadGoesOn(t *testing.T) {
	dice := rand.New(rand.NewSource(203))
	for range 200 {
		a, m := anyAccuracy(dice), 2+dice.Intn(12)
		w, v := modelOf(a, m, anyValues(dice, 30)...), modelOf(a, m, anyValues(dice, 20)...)
		s, o := loaded(t, made(t, w)), loaded(t, made(t, v))
		holdAll(t, s, w)
		for _, c := range anyValues(dice, 20) {
			wantAdd(t, s, c.v, c.n, w.add(c.v, c.n))
		}
		hold(t, s, w)
		wantTake(t, s, o, w.take(v))
		holdAll(t, s, w)
	}
}

// P20.3: what is handed in is neither changed nor kept, its spare room neither; what is answered is new.
func TestLists(t *testing.T) {
	room := append(rows(5, 3), api.Pair{Key: 99, N: 9}, api.Pair{Key: 98, N: 8})
	given := slices.Clone(room)
	s, e := dd.Load(1000, 3, room[:3], 1)
	if e != api.OK {
		t.Fatalf("Load: %d", e)
	}
	for k := 4; k < 9; k++ {
		wantAdd(t, s, modelOf(1000, 3).place(k).middle, 1, api.OK)
	}
	if !slices.Equal(room, given) {
		t.Errorf("Load and Add made %d of %d", room, given)
	}
	clear(room)
	want := []api.Pair{{Key: 6, N: 7}, {Key: 7, N: 3}, {Key: 8, N: 1}}
	l := s.Pairs()
	if !slices.Equal(l, want) || s.Folded() != 4 {
		t.Errorf("Pairs: %d, Folded: %d", l, s.Folded())
	}
	clear(append(l, rows(0, 9)...))
	clear(l)
	if l := s.Pairs(); !slices.Equal(l, want) {
		t.Errorf("Pairs: %d", l)
	}
}
