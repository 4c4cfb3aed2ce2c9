package kll_test

import (
	"math"
	"math/rand"
	"slices"
	"testing"

	"theodolite/api"
	"theodolite/kll"
)

// level is a list of levels of which just that one has values.
func level(h int, l ...int64) [][]int64 {
	return append(make([][]int64, h), l)
}

// P24.7: what may be loaded, at the edges of all that is asked of it; it tells what was handed in.
func TestLoad(t *testing.T) {
	for name, w := range map[string]*model{
		"nothing":                 {8, nil, 0},
		"no levels":               {8, [][]int64{}, 0},
		"nothing, greatest":       {4096, nil, 0},
		"one":                     {8, level(0, 5), 0},
		"one, greatest":           {4096, level(0, 5), 0},
		"a level is full":         {8, level(0, row(1, 1, 8)...), 0},
		"a level is full, 4096":   {4096, level(0, row(1, 1, 4096)...), 0},
		"all levels are full":     {8, [][]int64{row(1, 1, 2), row(1, 1, 2), row(1, 1, 3), row(1, 1, 4), row(1, 1, 6), row(1, 1, 8)}, 0},
		"all are full, 9":         {9, [][]int64{row(1, 1, 2), row(1, 1, 2), row(1, 1, 3), row(1, 1, 4), row(1, 1, 6), row(1, 1, 9)}, 0},
		"all are full, 100":       {100, [][]int64{row(1, 1, 45), row(1, 1, 67), row(1, 1, 100)}, 0},
		"the same again":          {8, [][]int64{{5, 5, 5}, {5, 5}, {5}}, 0},
		"one of the level 48":     {8, level(48, 5), 0},
		"two of the level 47":     {8, level(47, 5, 6), 0},
		"one of 47, and 46":       {8, append(level(46, 5, 6), []int64{7}), 0},
		"all that may be":         {8, [][]int64{{1, 2}, {1}, {1}, {1}, {1}, {1}, {1}, {1}, {1}, {1}, {1}, {1}, {1}, {1}, {1}, {1}, {1}, {1}, {1}, {1}, {1}, {1}, {1}, {1}, {1}, {1}, {1}, {1}, {1}, {1}, {1}, {1}, {1}, {1}, {1}, {1}, {1}, {1}, {1}, {1}, {1}, {1}, {1}, {1}, {1}, {1}, {1}, {1}}, 0},
		"a ledger of 1":           {8, level(0, 5), 1},
		"the greatest ledger":     {8, level(0, 5), deepest},
		"the greatest one, 48":    {8, level(48, 5), deepest},
		"values farthest from 0":  {8, [][]int64{{lowest, lowest, highest, highest}, {lowest, highest}, {lowest}}, 7},
		"values that go below 0":  {8, [][]int64{{-9, -8, 0, 3}, {-1}}, 7},
		"empty ones between some": {8, [][]int64{{1}, {}, nil, {2}, nil, {3}}, 7},
	} {
		t.Run(name, func(t *testing.T) {
			holdAll(t, loaded(t, w), w)
		})
	}
}

// P24.7: what is no stack's is refused, and left as it is.
func TestLoadRefuses(t *testing.T) {
	for name, w := range map[string]*model{
		"too small":                  {7, level(0, 5), 0},
		"too great":                  {4097, level(0, 5), 0},
		"50 levels":                  {8, level(49, 5), 0},
		"50 levels, the last empty":  {8, append(level(48, 5), nil), 0},
		"65 levels":                  {8, level(64, 5), 0},
		"113 levels":                 {8, level(112, 5), 0},
		"many levels":                {8, level(100000, 5), 0},
		"the last is empty":          {8, [][]int64{{1}, {}}, 0},
		"the last is nil":            {8, [][]int64{{1}, nil}, 0},
		"the only one is empty":      {8, [][]int64{{}}, 0},
		"all are empty":              {8, make([][]int64, 49), 0},
		"falls":                      {8, level(0, 2, 1), 0},
		"the last one falls":         {8, level(0, 1, 2, 3, 4, 4, 3), 0},
		"falls by all":               {8, level(0, highest, lowest), 0},
		"a higher one falls":         {8, [][]int64{{1}, {1, 2}, {3, 2}}, 0},
		"a lower one falls":          {8, [][]int64{{2, 1}, {1, 2}, {2, 3}}, 0},
		"no room":                    {8, level(0, row(1, 1, 9)...), 0},
		"no room, 4096":              {4096, level(0, row(1, 1, 4097)...), 0},
		"no room below another":      {8, [][]int64{row(1, 1, 7), {1}}, 0},
		"no room below two":          {8, [][]int64{row(1, 1, 5), {}, {1}}, 0},
		"no room below three":        {8, [][]int64{row(1, 1, 4), {}, {}, {1}}, 0},
		"no room below many":         {8, [][]int64{{1, 2, 3}, {}, {}, {}, {}, {}, {}, {1}}, 0},
		"no room above one":          {8, [][]int64{{1}, row(1, 1, 9)}, 0},
		"no room between some":       {8, [][]int64{{1}, row(1, 1, 7), {1}}, 0},
		"too much":                   {8, level(48, 5, 5), 0},
		"too much in all":            {8, append([][]int64{{1}}, level(47, 5)...), 0},
		"too much, by 1":             {8, append([][]int64{{1}}, level(46, 5, 6)...), 0},
		"too much, 3 of 47":          {8, level(47, 5, 6, 7), 0},
		"too much by all":            {4096, level(48, row(1, 1, 4096)...), 0},
		"too much by 2^64":           {4096, level(52, row(1, 1, 4096)...), 0},
		"too much, below":            {8, append(append(level(46, 5), []int64{6}), []int64{7}), 0},
		"too great a ledger":         {8, level(0, 5), deepest + 1},
		"the greatest of all":        {8, level(0, 5), math.MaxUint64},
		"a ledger of one bit":        {8, level(0, 5), 1 << 63},
		"nothing, a ledger of 1":     {8, nil, 1},
		"no levels, a ledger of 1":   {8, [][]int64{}, 1},
		"nothing, a ledger of all":   {8, nil, deepest},
		"nothing, too great a one":   {8, nil, math.MaxUint64},
		"too much of a level, again": {8, append(level(45, 1, 2, 3, 4), []int64{1, 2, 3, 4}), 0},
	} {
		levels := w.copied().levels
		if s, e := kll.Load(w.k, w.levels, w.ledger); s != nil || e != api.ErrArg {
			t.Errorf("%s: %v, %d", name, s, e)
		}
		if !slices.EqualFunc(w.levels, levels, slices.Equal) {
			t.Errorf("%s: Load made %v of %d", name, w, levels)
		}
	}
}

// P24.7: any models are loaded that may be; one value more than room is refused in each level.
func TestLoadAny(t *testing.T) {
	dice := rand.New(rand.NewSource(250))
	for range 300 {
		w := anyModel(dice, anySize(dice), 40)
		s := loaded(t, w)
		hold(t, s, w)
		for h := range w.levels {
			o := w.copied()
			for len(o.levels[h]) < o.room(h) {
				o.put(h, anyValue(dice))
			}
			hold(t, loaded(t, o), o)
			o.put(h, anyValue(dice))
			if s, e := kll.Load(o.k, o.levels, o.ledger); s != nil || e != api.ErrArg {
				t.Fatalf("%v: Load: %v, %d", o, s, e)
			}
		}
	}
}

// P24.7, P24.8: what was loaded goes on as what it was loaded from, with the same coins.
func TestLoadGoesOn(t *testing.T) {
	dice := rand.New(rand.NewSource(251))
	for range 100 {
		k := anySize(dice)
		s, w := anyStack(t, dice, k, 100)
		other, _ := anyStack(t, dice, k, 40)
		o, e := kll.Load(s.Size(), s.Levels(), s.Ledger())
		if e != api.OK {
			t.Fatalf("%v: Load: %d", w, e)
		}
		for range 40 {
			v, n := anyValue(dice), anyWeight(dice)
			b := []byte{byte(dice.Intn(256))}
			wantAdd(t, s, v, n, kll.NewCoins(b), api.OK)
			wantAdd(t, o, v, n, kll.NewCoins(b), api.OK)
			hold(t, o, &model{k, s.Levels(), s.Ledger()})
		}
		wantTake(t, s, other, nil, api.OK)
		wantTake(t, o, other, nil, api.OK)
		hold(t, o, &model{k, s.Levels(), s.Ledger()})
	}
}

// P24.7: what is handed in is neither changed nor kept, its spare room neither.
func TestLoadKeepsNone(t *testing.T) {
	low, high := row(1, 1, 9), row(10, 1, 9)
	spare := []int64{77}
	levels := [][]int64{low[:6], high[:8], spare}
	given, more := slices.Clone(low), slices.Clone(high)
	w := &model{8, [][]int64{row(1, 1, 6), row(10, 1, 8)}, 0}
	s, e := kll.Load(8, levels[:2], 0)
	if e != api.OK {
		t.Fatalf("Load: %d", e)
	}
	for v := range int64(5) {
		wantAdd(t, s, v+5, 3, nil, w.add(v+5, 3, &tosses{}))
	}
	hold(t, s, w)
	if !slices.Equal(low, given) || !slices.Equal(high, more) || !slices.Equal(levels[2], spare) || len(levels[0]) != 6 || len(levels[1]) != 8 {
		t.Errorf("Load and Add made %d, %d, %d", low, high, levels)
	}
	s, _ = kll.Load(8, levels[:2], 0)
	clear(low)
	clear(high)
	clear(levels)
	wantLevels(t, s, 0, row(1, 1, 6), row(10, 1, 8))
}

// P24.5: levels that are answered are new each time, share nothing with each other, with what is kept, nor with what another stack took.
func TestAnswersAreNew(t *testing.T) {
	w := &model{8, [][]int64{row(1, 1, 3), row(4, 1, 3), row(7, 1, 3)}, 0}
	s := loaded(t, w)
	a, b := s.Levels(), s.Levels()
	for _, l := range a {
		_ = append(l, 3, 3, 3, 3)
		clear(l)
	}
	_ = append(a, []int64{5})
	clear(a)
	if !slices.EqualFunc(b, w.levels, slices.Equal) {
		t.Errorf("Levels: %d", b)
	}
	hold(t, s, w)
	o, u := empty(t, 8), &model{k: 8}
	wantTake(t, o, s, nil, u.take(w, &tosses{}))
	for v := range int64(20) {
		wantAdd(t, o, v, 7, nil, u.add(v, 7, &tosses{}))
		wantAdd(t, s, v, 2, nil, w.add(v, 2, &tosses{}))
		hold(t, s, w)
		hold(t, o, u)
	}
	for _, l := range o.Levels() {
		clear(l)
	}
	hold(t, o, u)
}
