package dd_test

import (
	"math"
	"math/rand"
	"slices"
	"testing"

	"theodolite/api"
	"theodolite/dd"
)

// few are values of which an accuracy of 5000 and a budget of 2 keep the keys 3 and 5, with 5 folded.
var few = []came{{100, 3}, {-3, 1}, {10, 2}, {1, 4}}

// P20.1 to P20.5: the chapter's examples.
func TestExamples(t *testing.T) {
	s := empty(t, 5000, 2)
	wantAdd(t, s, 8, 1, api.OK)
	wantAdd(t, s, 1, 1, api.OK)
	want := func(num, den uint64, value int64, hazy bool) {
		t.Helper()
		if v, vague, e := s.At(num, den); v != value || vague != hazy || e != api.OK {
			t.Errorf("At(%d, %d): %d, %t, %d", num, den, v, vague, e)
		}
	}
	want(0, 1, 1, false)
	want(1, 1, 4, false)
	if l := s.Pairs(); !slices.Equal(l, []api.Pair{{Key: 1, N: 1}, {Key: 2, N: 1}}) || s.Folded() != 0 {
		t.Errorf("Pairs: %d, Folded: %d", l, s.Folded())
	}
	wantAdd(t, s, 100, 1, api.OK)
	want(0, 1, 4, true)
	want(1, 1, 121, false)
	if l := s.Pairs(); !slices.Equal(l, []api.Pair{{Key: 2, N: 2}, {Key: 5, N: 1}}) || s.Folded() != 1 || s.Total() != 3 {
		t.Errorf("Pairs: %d, Folded: %d, Total: %d", l, s.Folded(), s.Total())
	}
	if low, high, e := s.Ends(); low != 3 || high != 242 || e != api.OK {
		t.Errorf("Ends: %d, %d, %d", low, high, e)
	}
	if below, upto, e := s.Between(50); below != 2 || upto != 2 || e != api.OK {
		t.Errorf("Between(50): %d, %d, %d", below, upto, e)
	}
}

// P20.1: which accuracies and budgets may be; a sketch of each, to which nothing was added.
func TestNew(t *testing.T) {
	for _, a := range accuracies {
		for _, m := range []int{2, 3, 2048, 4095, 4096} {
			holdAll(t, empty(t, a, m), modelOf(a, m))
		}
	}
}

// P20.1, P20.3: accuracies and budgets that may not be have no sketch, an empty one neither.
func TestNewRefuses(t *testing.T) {
	for _, c := range [][2]int{
		{99, 2}, {5001, 2}, {0, 2}, {-100, 2}, {-5000, 2}, {10000, 2}, {math.MinInt, 2}, {math.MaxInt, 2}, {1<<32 + 500, 2},
		{100, 1}, {5000, 4097}, {500, 0}, {500, -2}, {500, -4096}, {500, math.MinInt}, {500, math.MaxInt}, {500, 1<<32 + 2},
		{0, 0}, {99, 1}, {5001, 4097}, {2, 500},
	} {
		if s, e := dd.New(c[0], c[1]); s != nil || e != api.ErrArg {
			t.Errorf("New(%d): %v, %d", c, s, e)
		}
		if s, e := dd.Load(c[0], c[1], nil, 0); s != nil || e != api.ErrArg {
			t.Errorf("Load(%d): %v, %d", c, s, e)
		}
	}
}

// P20.2: which error Add tells, where several apply; what is refused changes nothing.
func TestAddRefuses(t *testing.T) {
	full := []came{{0, most}}
	for _, c := range []struct {
		all  []came
		v    int64
		n    uint64
		want api.Errno
	}{
		{nil, 5, 0, api.ErrWeight},
		{nil, least, 0, api.ErrWeight},
		{few, 100, 0, api.ErrWeight},
		{few, least, 0, api.ErrWeight},
		{full, 0, 0, api.ErrWeight},
		{full, least, 0, api.ErrWeight},
		{nil, least, 1, api.ErrRange},
		{few, least, math.MaxUint64, api.ErrRange},
		{full, least, 1, api.ErrRange},
		{nil, 5, most + 1, api.ErrCap},
		{nil, 0, math.MaxUint64, api.ErrCap},
		{few, 100, most - 9, api.ErrCap},
		{few, -3, most - 9, api.ErrCap},
		{few, least + 1, most - 9, api.ErrCap},
		{few, last, math.MaxUint64 - 5, api.ErrCap},
		{full, 0, 1, api.ErrCap},
		{full, 7, 1, api.ErrCap},
		{full, 7, math.MaxUint64, api.ErrCap},
	} {
		for _, m := range []int{2, 4, 100} {
			w := modelOf(5000, m, c.all...)
			s := made(t, w)
			wantAdd(t, s, c.v, c.n, c.want)
			holdAll(t, s, w)
			if e := w.add(c.v, c.n); e != c.want {
				t.Errorf("the model's Add(%d, %d): %d", c.v, c.n, e)
			}
		}
	}
}

// P20.2 to P20.5: values about the ends and the middle of ranges of both signs, and 0, come to sketches whose budgets have room for them, or haven't.
func TestAdd(t *testing.T) {
	for _, a := range []int{100, 1000, 5000} {
		many := len(ranges(a))
		for _, k := range []int{1, 2, 3, many / 2, many - 1, many} {
			p := ranges(a)[k-1]
			for _, m := range []int{2, 3, 9} {
				w := modelOf(a, m)
				s := empty(t, a, m)
				for _, v := range []int64{p.middle, -p.middle, p.end, p.begin, -p.begin, -p.end, 0, p.begin - 1, 1 - p.begin, min(p.end, last-1) + 1, -min(p.end, last-1) - 1} {
					wantAdd(t, s, v, uint64(k), w.add(v, uint64(k)))
					holdAll(t, s, w)
				}
			}
		}
	}
}

// P20.2 to P20.5: the greatest totals, and the values farthest from 0.
func TestEdges(t *testing.T) {
	for _, all := range [][]came{
		{{0, most}},
		{{last, most}},
		{{least + 1, most}},
		{{last, 1}, {least + 1, most - 1}},
		{{least + 1, 1}, {0, 1}, {last, most - 2}},
		{{least + 1, most - 2}, {0, 1}, {last, 1}},
		{{0, most - 2}, {-1, 1}, {1, 1}},
		{{5, most / 2}, {100, 1}, {1000, 1}, {5, most/2 - 2}},
	} {
		for _, a := range []int{100, 5000} {
			w := modelOf(a, 2, all...)
			s := made(t, w)
			holdAll(t, s, w)
			holdAll(t, loaded(t, s), w)
			wantAdd(t, s, 5, 1, api.ErrCap)
			wantTake(t, s, s, api.ErrCap)
			wantTake(t, s, empty(t, a, 2), api.OK)
			holdAll(t, s, w)
		}
	}
}

// P20.2: which error Take tells, where several apply; what is refused changes neither sketch.
func TestTakeRefuses(t *testing.T) {
	full := []came{{-7, most}}
	for _, c := range []struct {
		a, m int
		all  []came
		want api.Errno
	}{
		{5000, 3, nil, api.ErrKind},
		{4999, 2, nil, api.ErrKind},
		{100, 4096, nil, api.ErrKind},
		{5000, 3, few, api.ErrKind},
		{4999, 2, few, api.ErrKind},
		{5000, 3, full, api.ErrKind},
		{4999, 2, full, api.ErrKind},
		{5000, 2, full, api.ErrCap},
		{5000, 2, []came{{8, most - 9}}, api.ErrCap},
		{5000, 2, []came{{8, most - 10}, {last, 1}}, api.ErrCap},
	} {
		w, v := modelOf(5000, 2, few...), modelOf(c.a, c.m, c.all...)
		s, o := made(t, w), made(t, v)
		wantTake(t, s, o, c.want)
		holdAll(t, s, w)
		holdAll(t, o, v)
		wantTake(t, o, s, c.want)
		holdAll(t, s, w)
		holdAll(t, o, v)
		wantTake(t, s, nil, api.ErrArg)
		wantTake(t, o, nil, api.ErrArg)
		holdAll(t, s, w)
		holdAll(t, o, v)
	}
}

// P20.2: what comes from another sketch, which stays as it was, or from the sketch itself.
func TestTake(t *testing.T) {
	lists := [][]came{
		nil, few[:1], few[:2], few[:3], few,
		{{-9, 1}, {-90, 2}, {-900, 3}},
		{{100, 10}, {10, 20}, {-3, 30}},
		{{1, 10}, {10, 20}, {100, 30}, {1000, 40}, {10000, 50}},
		{{least + 1, 1}, {last, most - 1000}},
	}
	for _, a := range lists {
		for _, b := range lists {
			for m := 2; m < 8; m++ {
				w, v := modelOf(5000, m, a...), modelOf(5000, m, b...)
				s, o := made(t, w), made(t, v)
				wantTake(t, s, o, w.take(v))
				holdAll(t, s, w)
				holdAll(t, o, v)
				wantTake(t, s, s, w.take(w))
				holdAll(t, s, w)
				wantAdd(t, o, 5, 1, v.add(5, 1))
				hold(t, s, w)
				hold(t, o, v)
			}
		}
	}
}

// P20.2 to P20.5: any acts on any sketches, a few of which may be taken by each other.
func TestAnyActs(t *testing.T) {
	dice := rand.New(rand.NewSource(201))
	for range 150 {
		a, m := anyAccuracy(dice), 2+dice.Intn(15)
		var l [3]*dd.Sketch
		var w [3]*model
		for i := range l {
			w[i] = modelOf(a, m+i/2, anyValues(dice, 12)...)
			l[i] = made(t, w[i])
		}
		for range 30 {
			i, j := dice.Intn(3), dice.Intn(3)
			switch dice.Intn(8) {
			case 0:
				wantTake(t, l[i], l[j], w[i].take(w[j]))
			case 1:
				l[i] = loaded(t, l[i])
			case 2:
				v, n := anyValue(dice), dice.Uint64()>>dice.Intn(64)
				wantAdd(t, l[i], v, n, w[i].add(v, n))
			default:
				v, n := anyValue(dice), uint64(dice.Intn(4))
				wantAdd(t, l[i], v, n, w[i].add(v, n))
			}
			for k := range l {
				hold(t, l[k], w[k])
			}
		}
		for k := range l {
			holdAll(t, l[k], w[k])
		}
	}
}

// P20.2, P20.3: all keys of the finest scale, five more than the greatest budget.
func TestFull(t *testing.T) {
	w := modelOf(100, 4096)
	many := len(ranges(100))
	for k := -many; k <= many; k++ {
		w.all = append(w.all, came{w.place(k).middle, 1})
	}
	s := made(t, w)
	hold(t, s, w)
	if folded := uint64(2*many + 1 - 4096); s.Folded() != folded {
		t.Errorf("Folded: %d, not %d", s.Folded(), folded)
	}
	hold(t, loaded(t, s), w)
	dice := rand.New(rand.NewSource(202))
	for range 100 {
		holdAt(t, s, w, uint64(dice.Intn(100)), 99)
		holdBetween(t, s, w, anyValue(dice))
	}
}
