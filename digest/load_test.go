package digest_test

import (
	"math"
	"math/rand"
	"slices"
	"testing"

	"theodolite/api"
	"theodolite/digest"
)

// P22.7: what may be loaded, at the edges of all that is asked of it; it tells what was handed in.
func TestLoad(t *testing.T) {
	for name, w := range map[string]*model{
		"nothing":                {d: 10},
		"no means":               {10, []api.Mean{}, []api.Mean{}, 0, 0},
		"nothing, finest":        {d: 1000},
		"one is listed":          {10, ones(5, 0, 1), nil, 5, 5},
		"one waits":              {10, nil, ones(5, 0, 1), 5, 5},
		"0 alone":                {10, ones(0, 0, 1), nil, 0, 0},
		"all but one wait":       {10, nil, ones(9, -1, 9), 1, 9},
		"all but one wait, 1000": {1000, nil, ones(0, 1, 999), 0, 998},
		"the same again":         {10, ones(5, 0, 30), ones(5, 0, 9), 5, 5},
		"not pressed":            {10, ones(0, 1, 200), nil, 0, 199},
		"wait in any order":      {10, ones(0, 1, 3), []api.Mean{{V: 9, N: 1}, {V: -9, N: 2}, {V: 2, N: 3}}, -9, 9},
		"farther ends":           {10, ones(0, 1, 3), ones(5, 1, 2), -1, 7},
		"the farthest ends":      {10, ones(0, 1, 3), ones(5, 1, 2), lowest, highest},
		"the farthest means":     {10, []api.Mean{{V: lowest, N: 1}, {V: highest, N: 1}}, []api.Mean{{V: highest, N: 1}, {V: lowest, N: 1}}, lowest, highest},
		"all that may be":        {10, []api.Mean{{V: 1, N: full}}, nil, 1, 1},
		"all that may be, waits": {10, nil, []api.Mean{{V: 1, N: full}}, 1, 1},
		"all that may be, both":  {10, []api.Mean{{V: 1, N: full - 2}, {V: 2, N: 1}}, []api.Mean{{V: 1, N: 1}}, 1, 2},
	} {
		t.Run(name, func(t *testing.T) {
			x := loaded(t, w)
			holdAll(t, x, w)
			x.Press()
			w.press()
			holdAll(t, x, w)
		})
	}
}

// P22.7: what is no digest's is refused.
func TestLoadRefuses(t *testing.T) {
	for name, w := range map[string]*model{
		"too coarse":               {9, ones(5, 0, 1), nil, 5, 5},
		"too fine":                 {1001, ones(5, 0, 1), nil, 5, 5},
		"nothing from 1 on":        {10, nil, nil, 1, 0},
		"nothing up to 1":          {10, nil, nil, 0, 1},
		"nothing at 5":             {10, nil, nil, 5, 5},
		"nothing at -1":            {10, []api.Mean{}, nil, -1, -1},
		"nothing from end to end":  {10, nil, []api.Mean{}, lowest, highest},
		"falls":                    {10, ones(5, -1, 2), nil, 4, 5},
		"the last one falls":       {10, append(ones(5, 1, 5), ones(8, 0, 1)...), nil, 5, 9},
		"falls by all":             {10, []api.Mean{{V: highest, N: 1}, {V: lowest, N: 1}}, nil, lowest, highest},
		"a weight of 0":            {10, []api.Mean{{V: 5, N: 0}}, nil, 5, 5},
		"a weight of 0, last":      {10, []api.Mean{{V: 5, N: 1}, {V: 6, N: 0}}, nil, 5, 6},
		"a weight of 0, waits":     {10, ones(5, 0, 1), []api.Mean{{V: 5, N: 0}}, 5, 5},
		"a weight of 0 at 0":       {10, nil, []api.Mean{{V: 0, N: 0}}, 0, 0},
		"too much":                 {10, []api.Mean{{V: 5, N: full + 1}}, nil, 5, 5},
		"too much, waits":          {10, nil, []api.Mean{{V: 5, N: full + 1}}, 5, 5},
		"too much by one bit":      {10, []api.Mean{{V: 5, N: 1<<63 + 5}}, nil, 5, 5},
		"too much in all":          {10, []api.Mean{{V: 5, N: full}}, ones(5, 0, 1), 5, 5},
		"too much in all, listed":  {10, []api.Mean{{V: 5, N: full}, {V: 5, N: 1}}, nil, 5, 5},
		"too much, and round":      {10, []api.Mean{{V: 5, N: 2}}, []api.Mean{{V: 5, N: math.MaxUint64}}, 5, 5},
		"too much, and round to 0": {10, []api.Mean{{V: 0, N: 1 << 63}, {V: 0, N: 1 << 63}}, nil, 0, 0},
		"as many wait":             {10, nil, ones(5, 0, 10), 5, 5},
		"more wait":                {10, ones(5, 0, 1), ones(5, 0, 11), 5, 5},
		"as many wait, 1000":       {1000, nil, ones(5, 0, 1000), 5, 5},
		"below the least":          {10, ones(4, 1, 2), nil, 5, 5},
		"below the least, waits":   {10, ones(5, 0, 1), ones(4, 0, 1), 5, 5},
		"above the greatest":       {10, ones(5, 1, 2), nil, 5, 5},
		"above the greatest, wait": {10, ones(5, 0, 1), ones(6, 0, 1), 5, 5},
		"last of many is above":    {10, ones(0, 1, 100), nil, 0, 98},
		"last that waits is below": {10, ones(0, 1, 100), []api.Mean{{V: 5, N: 1}, {V: -1, N: 1}}, 0, 99},
		"ends are turned":          {10, ones(5, 0, 1), nil, 6, 4},
		"ends are turned, all":     {10, ones(0, 0, 1), nil, highest, lowest},
	} {
		list, waits := slices.Clone(w.list), slices.Clone(w.waits)
		if x, e := digest.Load(w.d, w.least, w.most, w.list, w.waits); x != nil || e != api.ErrArg {
			t.Errorf("%s: %v, %d", name, x, e)
		}
		if !slices.Equal(w.list, list) || !slices.Equal(w.waits, waits) {
			t.Errorf("%s: Load made %v of %d, %d", name, w, list, waits)
		}
	}
}

// P22.7, P22.8: what was loaded goes on as what it was loaded from.
func TestLoadGoesOn(t *testing.T) {
	dice := rand.New(rand.NewSource(228))
	for range 100 {
		d := anyFineness(dice)
		x, _ := made(t, d, anyMeans(dice, 80)...)
		other, _ := made(t, d, anyMeans(dice, 30)...)
		least, most, _ := x.Ends()
		y := loaded(t, &model{d, x.List(), x.Waits(), least, most})
		for range 40 {
			v, n := anyValue(dice), anyWeight(dice)
			wantAdd(t, x, v, n, api.OK)
			wantAdd(t, y, v, n, api.OK)
			wantSame(t, x, y)
		}
		wantTake(t, x, other, api.OK)
		wantTake(t, y, other, api.OK)
		wantSame(t, x, y)
	}
}

// wantSame holds that two digests keep the same.
func wantSame(t *testing.T, x, y *digest.Digest) {
	t.Helper()
	least, most, e := x.Ends()
	hold(t, y, &model{x.Fineness(), x.List(), x.Waits(), least, most})
	if e != api.OK {
		t.Fatalf("Ends: %d", e)
	}
}

// P22.7: what is handed in is neither changed nor kept, its spare room neither.
func TestLoadKeepsNone(t *testing.T) {
	list, waits := ones(1, 1, 6), ones(20, -1, 6)
	given, more := slices.Clone(list), slices.Clone(waits)
	w := &model{10, slices.Clone(list[:3]), slices.Clone(waits[:3]), 1, 20}
	x, e := digest.Load(10, 1, 20, list[:3], waits[:3])
	if e != api.OK {
		t.Fatalf("Load: %d", e)
	}
	for range 9 {
		wantAdd(t, x, 4, 1, w.add(4, 1))
	}
	hold(t, x, w)
	if !slices.Equal(list, given) || !slices.Equal(waits, more) {
		t.Errorf("Load and Add made %d, %d of %d, %d", list, waits, given, more)
	}
	clear(list)
	clear(waits)
	hold(t, x, w)
}

// P22.4: lists that are answered are new each time, and share nothing with what is kept, nor with what another digest took.
func TestAnswersAreNew(t *testing.T) {
	w := &model{10, ones(1, 1, 4), ones(9, -1, 4), 1, 9}
	x := loaded(t, w)
	a, b, c, d := x.List(), x.Waits(), x.List(), x.Waits()
	for _, l := range [][]api.Mean{a, b} {
		clear(l)
		_ = append(l, api.Mean{V: 3, N: 3})
	}
	if !slices.Equal(c, w.list) || !slices.Equal(d, w.waits) {
		t.Errorf("List: %d, Waits: %d", c, d)
	}
	hold(t, x, w)
	y, u := loaded(t, w), w.copied()
	wantTake(t, y, x, u.take(w))
	wantAdd(t, y, 4, 1, u.add(4, 1))
	wantAdd(t, x, 5, 1, w.add(5, 1))
	hold(t, x, w)
	hold(t, y, u)
	clear(x.List())
	hold(t, y, u)
}
