package walk_test

import (
	"math"
	"math/rand"
	"slices"
	"testing"

	"theodolite/api"
	"theodolite/walk"
)

// few are the pairs of the chapter's examples: a row of 1 1 5 9 9 9.
var few = []api.Pair{{Key: 1, N: 2}, {Key: 5, N: 1}, {Key: 9, N: 3}}

// edges are tables whose keys and counts are at their ends.
var edges = [][]api.Pair{
	nil,
	{},
	few,
	{{Key: 0, N: 1}},
	{{Key: -7, N: 5}},
	{{Key: 0, N: top}},
	{{Key: math.MinInt, N: 1}},
	{{Key: math.MaxInt, N: 1}},
	{{Key: math.MinInt, N: top}},
	{{Key: math.MinInt, N: 1}, {Key: math.MaxInt, N: 1}},
	{{Key: math.MinInt, N: 1}, {Key: math.MinInt + 1, N: 2}, {Key: math.MaxInt - 1, N: 3}, {Key: math.MaxInt, N: 4}},
	{{Key: math.MinInt, N: 1}, {Key: 0, N: top - 2}, {Key: math.MaxInt, N: 1}},
	{{Key: -1, N: top - 1}, {Key: 0, N: 1}},
	{{Key: 0, N: 1}, {Key: 1, N: top - 1}},
	{{Key: 1, N: top / 2}, {Key: 2, N: top / 2}},
	{{Key: -1 << 20, N: 3}, {Key: 1 << 20, N: 3}},
	{{Key: -1<<20 - 1, N: 3}, {Key: 1<<20 + 1, N: 3}, {Key: 1<<20 + 2, N: 2}},
}

// P16.1 to P16.5: the chapter's examples.
func TestExamples(t *testing.T) {
	x := made(t, few...)
	if k, e := x.Key(3); k != 5 || e != api.OK {
		t.Errorf("Key(3): %d, %d", k, e)
	}
	if k, e := x.Part(1, 2); k != 5 || e != api.OK {
		t.Errorf("Part(1, 2): %d, %d", k, e)
	}
	if num, den, e := x.Share(5); num != 1 || den != 2 || e != api.OK {
		t.Errorf("Share(5): %d, %d, %d", num, den, e)
	}
	if k, n, e := x.Most(); k != 9 || n != 3 || e != api.OK {
		t.Errorf("Most: %d, %d, %d", k, n, e)
	}
	if l, e := x.Parts(2); !slices.Equal(l, []int{5}) || e != api.OK {
		t.Errorf("Parts(2): %d, %d", l, e)
	}
	if l := gone(x); !slices.Equal(l, []told{{2, 1}, {3, 5}, {6, 9}}) {
		t.Errorf("Steps: %d", l)
	}
}

// P16.1: which pairs are no table's, wherever among others what is wrong stands.
func TestNewRefuses(t *testing.T) {
	for _, l := range [][]api.Pair{
		{{Key: 0, N: 0}},
		{{Key: math.MinInt, N: 0}},
		{{Key: 1, N: 2}, {Key: 5, N: 0}, {Key: 9, N: 3}},
		{{Key: 1, N: 0}, {Key: 5, N: 1}},
		{{Key: 1, N: 2}, {Key: 5, N: 0}},
		{{Key: 1, N: 2}, {Key: 1, N: 2}},
		{{Key: 0, N: 2}, {Key: 0, N: 2}},
		{{Key: 2, N: 2}, {Key: 1, N: 2}},
		{{Key: 1, N: 2}, {Key: 9, N: 3}, {Key: 5, N: 1}},
		{{Key: 9, N: 2}, {Key: 5, N: 3}, {Key: 6, N: 1}},
		{{Key: 1, N: 1}, {Key: 2, N: 1}, {Key: 1, N: 1}},
		{{Key: 0, N: 1}, {Key: math.MinInt, N: 1}},
		{{Key: math.MaxInt, N: 1}, {Key: math.MinInt, N: 1}},
		{{Key: math.MaxInt, N: 1}, {Key: math.MaxInt, N: 1}},
		{{Key: math.MinInt, N: 1}, {Key: math.MinInt, N: 1}},
		{{Key: 0, N: top + 1}},
		{{Key: 0, N: math.MaxUint64}},
		{{Key: 0, N: top}, {Key: 1, N: 1}},
		{{Key: 0, N: 1}, {Key: 1, N: top}},
		{{Key: 0, N: 2}, {Key: 1, N: math.MaxUint64}},
		{{Key: 0, N: math.MaxUint64}, {Key: 1, N: 2}},
		{{Key: 0, N: top / 2}, {Key: 1, N: top / 2}, {Key: 2, N: 1}},
		{{Key: 0, N: top}, {Key: 1, N: top}, {Key: 2, N: top}, {Key: 3, N: top}, {Key: 4, N: 1}},
		{{Key: 0, N: 1 << 63}, {Key: 1, N: 1 << 63}, {Key: 2, N: 5}},
	} {
		if x, e := walk.New(l); x != nil || e != api.ErrArg {
			t.Errorf("New(%d): %v, %d", l, x, e)
		}
	}
}

// P16.1 to P16.5: tables whose keys and counts are at their ends, that of no pairs among them.
func TestEdges(t *testing.T) {
	for _, l := range edges {
		x := made(t, l...)
		hold(t, x, l)
		holdKeys(t, x, l)
		for _, p := range [][2]uint64{{0, 1}, {1, 1}, {0, math.MaxUint64}, {1, math.MaxUint64}, {math.MaxUint64 - 1, math.MaxUint64}, {math.MaxUint64, math.MaxUint64}, {1, 2}, {1, top}, {top - 1, top}, {2, 6}} {
			holdPart(t, x, l, p[0], p[1])
		}
		for _, n := range []int{1, 2, 3, 7, 999, 1000} {
			holdParts(t, x, l, n)
		}
	}
}

// P16.2, P16.3: each thing of a row, by its rank and by its key.
func TestRow(t *testing.T) {
	x := made(t, api.Pair{Key: -7, N: 1}, api.Pair{Key: 0, N: 2}, api.Pair{Key: 12, N: 3}, api.Pair{Key: 13, N: 4})
	row := []int{-7, 0, 0, 12, 12, 12, 13, 13, 13, 13}
	for i, want := range row {
		if k, e := x.Key(uint64(i + 1)); k != want || e != api.OK {
			t.Errorf("Key(%d): %d, %d, not %d", i+1, k, e, want)
		}
		if k, e := x.Part(uint64(i+1), 10); k != want || e != api.OK {
			t.Errorf("Part(%d, 10): %d, %d, not %d", i+1, k, e, want)
		}
	}
	for _, r := range []uint64{0, 11, 12, top, top + 1, math.MaxUint64} {
		if k, e := x.Key(r); k != 0 || e != api.ErrArg {
			t.Errorf("Key(%d): %d, %d", r, k, e)
		}
	}
	for k, want := range map[int][4]uint64{
		-8: {0, 0, 0, 1}, -7: {0, 1, 1, 10}, -6: {1, 1, 1, 10}, 0: {1, 3, 3, 10}, 1: {3, 3, 3, 10},
		11: {3, 3, 3, 10}, 12: {3, 6, 3, 5}, 13: {6, 10, 1, 1}, 14: {10, 10, 1, 1},
	} {
		num, den, e := x.Share(k)
		if got := [4]uint64{x.Below(k), x.Upto(k), num, den}; got != want || e != api.OK {
			t.Errorf("Below, Upto, Share of %d: %d, %d, not %d", k, got, e, want)
		}
	}
}

// P16.2 to P16.4: which error is told, where several apply, and nothing beside it.
func TestRefuses(t *testing.T) {
	none, some := made(t), made(t, few...)
	for _, c := range []struct {
		num, den   uint64
		none, some api.Errno
	}{
		{0, 0, api.ErrQuant, api.ErrQuant},
		{1, 0, api.ErrQuant, api.ErrQuant},
		{2, 1, api.ErrQuant, api.ErrQuant},
		{math.MaxUint64, math.MaxUint64 - 1, api.ErrQuant, api.ErrQuant},
		{0, 1, api.ErrEmpty, api.OK},
		{1, 1, api.ErrEmpty, api.OK},
	} {
		if k, e := none.Part(c.num, c.den); k != 0 || e != c.none {
			t.Errorf("Part(%d, %d) of none: %d, %d", c.num, c.den, k, e)
		}
		if k, e := some.Part(c.num, c.den); (k == 0) != (e != api.OK) || e != c.some {
			t.Errorf("Part(%d, %d): %d, %d", c.num, c.den, k, e)
		}
	}
	for _, n := range []int{math.MinInt, -1, 0, 1001, math.MaxInt} {
		for _, x := range []*walk.Table{none, some} {
			if l, e := x.Parts(n); len(l) != 0 || e != api.ErrArg {
				t.Errorf("Parts(%d): %d, %d", n, l, e)
			}
		}
	}
	for _, n := range []int{1, 2, 1000} {
		if l, e := none.Parts(n); len(l) != 0 || e != api.ErrEmpty {
			t.Errorf("Parts(%d) of none: %d, %d", n, l, e)
		}
	}
	for _, r := range []uint64{0, 1, math.MaxUint64} {
		if k, e := none.Key(r); k != 0 || e != api.ErrEmpty {
			t.Errorf("Key(%d) of none: %d, %d", r, k, e)
		}
	}
	if num, den, e := none.Share(0); num != 0 || den != 0 || e != api.ErrEmpty {
		t.Errorf("Share of none: %d, %d, %d", num, den, e)
	}
	if k, n, e := none.Most(); k != 0 || n != 0 || e != api.ErrEmpty {
		t.Errorf("Most of none: %d, %d, %d", k, n, e)
	}
}

// P16.4: of keys that are counted as often the least, wherever it stands.
func TestMost(t *testing.T) {
	for _, c := range []struct {
		l    []api.Pair
		want api.Pair
	}{
		{[]api.Pair{{Key: -5, N: 3}, {Key: 0, N: 3}, {Key: 7, N: 3}}, api.Pair{Key: -5, N: 3}},
		{[]api.Pair{{Key: -5, N: 2}, {Key: 0, N: 3}, {Key: 7, N: 3}}, api.Pair{Key: 0, N: 3}},
		{[]api.Pair{{Key: -5, N: 2}, {Key: 0, N: 3}, {Key: 7, N: 4}}, api.Pair{Key: 7, N: 4}},
		{[]api.Pair{{Key: -5, N: 4}, {Key: 0, N: 3}, {Key: 7, N: 4}}, api.Pair{Key: -5, N: 4}},
		{[]api.Pair{{Key: 0, N: 1}}, api.Pair{Key: 0, N: 1}},
		{[]api.Pair{{Key: math.MinInt, N: top / 2}, {Key: math.MaxInt, N: top / 2}}, api.Pair{Key: math.MinInt, N: top / 2}},
	} {
		if k, n, e := made(t, c.l...).Most(); k != c.want.Key || n != c.want.N || e != api.OK {
			t.Errorf("Most of %d: %d, %d, %d", c.l, k, n, e)
		}
	}
}

// P16.4: as many keys as there are ranks that cut, also where one key has several of them.
func TestParts(t *testing.T) {
	x := made(t, few...)
	for n, want := range map[int][]int{1: nil, 2: {5}, 3: {1, 9}, 4: {1, 5, 9}, 6: {1, 1, 5, 9, 9}, 7: {1, 1, 5, 9, 9, 9}} {
		if l, e := x.Parts(n); !slices.Equal(l, want) || e != api.OK {
			t.Errorf("Parts(%d): %d, %d, not %d", n, l, e, want)
		}
	}
	if l, e := made(t, api.Pair{Key: 4, N: 1}).Parts(1000); len(l) != 999 || slices.Max(l) != 4 || slices.Min(l) != 4 || e != api.OK {
		t.Errorf("Parts(1000) of one: %d, %d", l, e)
	}
}

// P16.5: a range may end anywhere, begin again, and go on inside of another one.
func TestSteps(t *testing.T) {
	x := made(t, few...)
	all := []told{{2, 1}, {3, 5}, {6, 9}}
	steps := x.Steps()
	for end := 1; end <= 3; end++ {
		var l []told
		for r, k := range steps {
			if l = append(l, told{r, k}); len(l) == end {
				break
			}
		}
		if !slices.Equal(l, all[:end]) {
			t.Errorf("Steps up to %d: %d", end, l)
		}
	}
	var l []told
	for r, k := range steps {
		for s, j := range steps {
			l = append(l, told{r, k}, told{s, j})
		}
	}
	if len(l) != 18 || l[0] != all[0] || l[1] != all[0] || l[5] != all[2] || l[6] != all[1] || l[17] != all[2] {
		t.Errorf("Steps inside of Steps: %d", l)
	}
	for r, k := range made(t).Steps() {
		t.Errorf("a step of none: %d, %d", r, k)
	}
}

// P16.1 to P16.5: any tables answer what the chapter's words say.
func TestAny(t *testing.T) {
	dice := rand.New(rand.NewSource(16))
	for range 400 {
		l := anyPairs(dice, 40)
		x, m := made(t, l...), model(l)
		hold(t, x, m)
		holdKeys(t, x, m)
		for range 20 {
			den := dice.Uint64()>>dice.Intn(64) | 1
			holdPart(t, x, m, dice.Uint64()%den, den)
			holdPart(t, x, m, dice.Uint64(), dice.Uint64())
		}
		holdParts(t, x, m, 1+dice.Intn(50))
	}
}

// P16.1: New of what is spoilt at one place is refused, of any table.
func TestAnySpoilt(t *testing.T) {
	dice := rand.New(rand.NewSource(17))
	for range 400 {
		l := anyPairs(dice, 40)
		if len(l) < 2 {
			continue
		}
		i := 1 + dice.Intn(len(l)-1)
		for _, p := range []api.Pair{{Key: l[i].Key}, {Key: l[i-1].Key, N: 1}, {Key: l[i].Key, N: top - model(l).total() + l[i].N + 1}, {Key: l[i].Key, N: math.MaxUint64 - uint64(dice.Intn(9))}} {
			spoilt := slices.Clone(l)
			spoilt[i] = p
			if x, e := walk.New(spoilt); x != nil || e != api.ErrArg {
				t.Fatalf("New(%d): %v, %d", spoilt, x, e)
			}
		}
		l[i].N += top - model(l).total()
		hold(t, made(t, l...), l)
	}
}

// P16.6: a greater rank's key is no lesser one; Below of a key's rank is less than it, Upto is not.
func TestWhatFollows(t *testing.T) {
	dice := rand.New(rand.NewSource(18))
	for range 200 {
		x := made(t, anyPairs(dice, 40)...)
		if x.Total() == 0 {
			continue
		}
		ranks := []uint64{1, x.Total()}
		for r := range x.Steps() {
			ranks = append(ranks, r, r-r/5, 1+dice.Uint64()%x.Total())
		}
		slices.Sort(ranks)
		ahead := math.MinInt
		for _, r := range ranks {
			k, e := x.Key(r)
			if e != api.OK || k < ahead || x.Below(k) >= r || x.Upto(k) < r {
				t.Fatalf("Key(%d): %d, %d behind %d: %d below, %d up to it", r, k, e, ahead, x.Below(k), x.Upto(k))
			}
			ahead = k
		}
	}
}

// P16.1 to P16.3: many keys are looked up by halves, each one in a few steps.
func TestMany(t *testing.T) {
	const many = 1 << 20
	l := make([]api.Pair, many)
	for i := range l {
		l[i] = api.Pair{Key: 3*i - many, N: 7}
	}
	x := made(t, l...)
	for i, p := range l {
		ahead := uint64(7 * i)
		first, e1 := x.Key(ahead + 1)
		last, e2 := x.Key(ahead + 7)
		if first != p.Key || last != p.Key || e1 != api.OK || e2 != api.OK {
			t.Fatalf("Key(%d): %d, %d; Key(%d): %d, %d", ahead+1, first, e1, ahead+7, last, e2)
		}
		if x.Below(p.Key) != ahead || x.Upto(p.Key-1) != ahead || x.Upto(p.Key) != ahead+7 || x.Below(p.Key+1) != ahead+7 {
			t.Fatalf("Below(%d): %d, Upto: %d", p.Key, x.Below(p.Key), x.Upto(p.Key))
		}
	}
}

// P16.1, P16.4: what is handed in is neither changed nor kept; an answer is new memory.
func TestAnswers(t *testing.T) {
	room := append(slices.Clone(few), api.Pair{Key: 77, N: 7})
	given := slices.Clone(room)
	x := made(t, room[:3]...)
	if !slices.Equal(room, given) {
		t.Errorf("New made %d of %d", room, given)
	}
	steps := x.Steps()
	room[0], room[1], room[2] = api.Pair{Key: 4, N: 9}, api.Pair{Key: 3, N: 9}, api.Pair{Key: 2, N: 9}
	hold(t, x, few)
	holdKeys(t, x, few)
	for r, k := range steps {
		if r != 2 || k != 1 {
			t.Errorf("the first step: %d, %d", r, k)
		}
		break
	}
	l, _ := x.Parts(4)
	other, _ := x.Parts(4)
	l[0], l[1], l[2] = 70, 80, 90
	if !slices.Equal(other, []int{1, 5, 9}) {
		t.Errorf("another answer is %d", other)
	}
	hold(t, x, few)
	holdParts(t, x, few, 4)
}
