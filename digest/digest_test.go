package digest_test

import (
	"math"
	"math/rand"
	"slices"
	"testing"

	"theodolite/api"
	"theodolite/digest"
)

// few are means of which pressing puts none together, whatever the order.
var few = []api.Mean{{V: 40, N: 2}, {V: -10, N: 1}, {V: 20, N: 3}}

// P22.1 to P22.6, P22.9: the chapter's examples.
func TestExamples(t *testing.T) {
	x := empty(t, 10)
	wantAdd(t, x, 10, 1, api.OK)
	wantAdd(t, x, 20, 1, api.OK)
	wantAdd(t, x, 40, 2, api.OK)
	for _, c := range []struct {
		num, den uint64
		want     int64
	}{{0, 1, 10}, {1, 2, 26}, {1, 1, 40}} {
		if v, e := x.At(c.num, c.den); v != c.want || e != api.OK {
			t.Errorf("At(%d, %d): %d, %d", c.num, c.den, v, e)
		}
	}
	if n, m := x.Upto(30), x.Upto(40); n != 2 || m != 4 {
		t.Errorf("Upto(30): %d, Upto(40): %d", n, m)
	}
	if v, e := x.Mean(); v != 27 || e != api.OK {
		t.Errorf("Mean: %d, %d", v, e)
	}
}

// P22.1: each fineness that may be has a digest, which tells it, and to which nothing came.
func TestNew(t *testing.T) {
	for d := 10; d <= 1000; d++ {
		x := empty(t, d)
		if n := x.Fineness(); n != d || x.Total() != 0 {
			t.Fatalf("New(%d): Fineness: %d, Total: %d", d, n, x.Total())
		}
	}
	for _, d := range []int{10, 11, 500, 1000} {
		x, w := empty(t, d), &model{d: d}
		holdAll(t, x, w)
		x.Press()
		holdAll(t, x, w)
	}
}

// P22.1, P22.7: a fineness that may not be has no digest, an empty one neither.
func TestNewRefuses(t *testing.T) {
	for _, d := range []int{9, 1001, 0, 1, -1, -10, -1000, 1 << 32, 1<<32 + 10, math.MinInt, math.MaxInt, math.MinInt + 10} {
		if x, e := digest.New(d); x != nil || e != api.ErrArg {
			t.Errorf("New(%d): %v, %d", d, x, e)
		}
		if x, e := digest.Load(d, 0, 0, nil, nil); x != nil || e != api.ErrArg {
			t.Errorf("Load(%d): %v, %d", d, x, e)
		}
		if x, e := digest.Load(d, 5, 5, []api.Mean{{V: 5, N: 1}}, nil); x != nil || e != api.ErrArg {
			t.Errorf("Load(%d) of a mean: %v, %d", d, x, e)
		}
	}
}

// P22.2: what comes waits as it came, up to one fewer than the fineness; with one more all are listed, by rising numbers.
func TestAdd(t *testing.T) {
	for _, d := range []int{10, 11, 100, 1000} {
		x := empty(t, d)
		var came []api.Mean
		for i := range d {
			if l, o := x.List(), x.Waits(); len(l) != 0 || !slices.Equal(o, came) {
				t.Fatalf("%d: List: %d, Waits: %d", d, l, o)
			}
			m := api.Mean{V: int64(i * 7 % d), N: 1}
			wantAdd(t, x, m.V, m.N, api.OK)
			came = append(came, m)
		}
		if o := x.Waits(); len(o) != 0 || x.Total() != uint64(d) {
			t.Fatalf("%d: Waits: %d, Total: %d", d, o, x.Total())
		}
		w := &model{d: d, waits: came}
		w.reach(0, int64(d-1))
		w.press()
		hold(t, x, w)
	}
}

// P22.2: one more than wait pressed again and again, of all weights; the ends of numbers among them.
func TestAddMore(t *testing.T) {
	dice := rand.New(rand.NewSource(221))
	for _, d := range []int{10, 13, 60} {
		x, w := made(t, d)
		for i := range 12 * d {
			m := api.Mean{V: anyValue(dice), N: anyWeight(dice)}
			switch i % (2 * d) {
			case 5:
				m.V = lowest
			case 7:
				m.V = highest
			}
			wantAdd(t, x, m.V, m.N, w.add(m.V, m.N))
			hold(t, x, w)
		}
		holdAll(t, x, w)
	}
}

// P22.2: which error Add tells, where both apply; what is refused changes nothing.
func TestAddRefuses(t *testing.T) {
	for _, c := range []struct {
		all  []api.Mean
		n    uint64
		want api.Errno
	}{
		{nil, 0, api.ErrWeight},
		{few, 0, api.ErrWeight},
		{[]api.Mean{{V: 5, N: full}}, 0, api.ErrWeight},
		{nil, full + 1, api.ErrCap},
		{nil, math.MaxUint64, api.ErrCap},
		{few, full - 5, api.ErrCap},
		{few, full, api.ErrCap},
		{few, math.MaxUint64, api.ErrCap},
		{few, math.MaxUint64 - 5, api.ErrCap},
		{few, math.MaxUint64 - 6, api.ErrCap},
		{[]api.Mean{{V: 5, N: full}}, 1, api.ErrCap},
		{[]api.Mean{{V: 5, N: full}}, math.MaxUint64, api.ErrCap},
		{[]api.Mean{{V: 5, N: full - 1}}, 2, api.ErrCap},
	} {
		for _, v := range []int64{0, 7, -1000, 1000, lowest, highest} {
			x, w := made(t, 10, c.all...)
			wantAdd(t, x, v, c.n, c.want)
			holdAll(t, x, w)
		}
	}
}

// P22.2: the refused one, where one more would have pressed.
func TestAddRefusesLate(t *testing.T) {
	x, w := made(t, 10, few[0], few[1], few[2], few[0], few[1], few[2], few[0], few[1], few[2])
	wantAdd(t, x, 5, 0, api.ErrWeight)
	wantAdd(t, x, 5, full-17, api.ErrCap)
	hold(t, x, w)
	if l, o := x.List(), x.Waits(); len(l) != 0 || len(o) != 9 {
		t.Errorf("List: %d, Waits: %d", l, o)
	}
	wantAdd(t, x, 5, full-18, w.add(5, full-18))
	holdAll(t, x, w)
	if l, o := x.List(), x.Waits(); len(l) == 0 || len(o) != 0 || x.Total() != full {
		t.Errorf("List: %d, Waits: %d, Total: %d", l, o, x.Total())
	}
}

// P22.2, P22.4 to P22.6, P22.9: the greatest totals, and the numbers farthest from 0.
func TestEdges(t *testing.T) {
	for _, all := range [][]api.Mean{
		{{V: 0, N: full}},
		{{V: highest, N: full}},
		{{V: lowest, N: full}},
		{{V: lowest, N: 1}, {V: highest, N: full - 1}},
		{{V: lowest, N: full - 1}, {V: highest, N: 1}},
		{{V: highest, N: full / 2}, {V: lowest, N: full / 2}},
		{{V: highest, N: 1}, {V: lowest, N: 1}},
		{{V: lowest, N: 1}, {V: 0, N: full - 2}, {V: highest, N: 1}},
		{{V: highest - 1, N: full / 4}, {V: highest, N: full / 2}, {V: highest - 1, N: full / 4}},
		{{V: lowest, N: full / 4}, {V: lowest + 1, N: full / 2}, {V: lowest, N: full / 4}},
	} {
		for _, d := range []int{10, 1000} {
			x, w := made(t, d, all...)
			holdAll(t, x, w)
			x.Press()
			w.press()
			holdAll(t, x, w)
			holdAll(t, loaded(t, w), w)
		}
	}
}

// P22.2: many values of great weights, all means that are pressed being of great totals, for the finest and the coarsest digests.
func TestGreatWeights(t *testing.T) {
	dice := rand.New(rand.NewSource(222))
	for _, d := range []int{10, 1000} {
		x, w := made(t, d)
		for range 3000 {
			v, n := anyValue(dice), uint64(full/3000-1)-dice.Uint64()>>(30+dice.Intn(30))
			wantAdd(t, x, v, n, w.add(v, n))
		}
		hold(t, x, w)
		rest := full - x.Total()
		wantAdd(t, x, 0, rest+1, api.ErrCap)
		wantAdd(t, x, 0, rest, w.add(0, rest))
		x.Press()
		w.press()
		hold(t, x, w)
		told := w.tale()
		for range 100 {
			holdAt(t, x, told, dice.Uint64()>>2, 1<<62)
			holdUpto(t, x, told, anyValue(dice))
		}
	}
}

// P22.3: which error Take tells, where several apply; what is refused changes neither digest.
func TestTakeRefuses(t *testing.T) {
	for _, c := range []struct {
		d    int
		all  []api.Mean
		want api.Errno
	}{
		{11, nil, api.ErrKind},
		{1000, nil, api.ErrKind},
		{11, few, api.ErrKind},
		{11, []api.Mean{{V: 5, N: full}}, api.ErrKind},
		{10, []api.Mean{{V: 5, N: full}}, api.ErrCap},
		{10, []api.Mean{{V: 500, N: full - 5}}, api.ErrCap},
		{10, []api.Mean{{V: -500, N: full - 6}, {V: 500, N: 1}}, api.ErrCap},
	} {
		x, w := made(t, 10, few...)
		o, u := made(t, c.d, c.all...)
		wantTake(t, x, o, c.want)
		wantTake(t, o, x, c.want)
		wantTake(t, x, nil, api.ErrArg)
		wantTake(t, o, nil, api.ErrArg)
		hold(t, x, w)
		hold(t, o, u)
	}
	x, w := made(t, 10, few...)
	o, u := made(t, 10, api.Mean{V: -500, N: full - 6})
	wantTake(t, x, o, w.take(u))
	holdAll(t, x, w)
	wantTake(t, x, x, api.ErrCap)
	wantTake(t, x, o, api.ErrCap)
	holdAll(t, x, w)
	hold(t, o, u)
}

// P22.3: a digest that has nothing gives nothing, and nothing is pressed.
func TestTakeNothing(t *testing.T) {
	x, w := made(t, 10, few...)
	wantTake(t, x, empty(t, 10), api.OK)
	hold(t, x, w)
	if l, o := x.List(), x.Waits(); len(l) != 0 || !slices.Equal(o, few) {
		t.Errorf("List: %d, Waits: %d", l, o)
	}
	o := empty(t, 10)
	wantTake(t, o, o, api.OK)
	wantTake(t, o, empty(t, 10), api.OK)
	hold(t, o, &model{d: 10})
}

// P22.3: a digest to which one value came gives that, and all is pressed.
func TestTakeOne(t *testing.T) {
	x, w := made(t, 10, few...)
	o, u := made(t, 10, api.Mean{V: 5, N: 1})
	wantTake(t, x, o, w.take(u))
	holdAll(t, x, w)
	if l := x.List(); !slices.Equal(l, []api.Mean{{V: -10, N: 1}, {V: 5, N: 1}, {V: 20, N: 3}, {V: 40, N: 2}}) || len(x.Waits()) != 0 {
		t.Errorf("List: %d, Waits: %d", l, x.Waits())
	}
	hold(t, o, u)
}

// P22.3: what is taken is pressed at once, those of one number in their order: the listed ones, those that wait, the other one's likewise.
func TestTakeOrder(t *testing.T) {
	of := func(list, waits uint64) *model {
		return &model{10, []api.Mean{{V: 5, N: list}}, []api.Mean{{V: 5, N: waits}}, 5, 5}
	}
	x, o := loaded(t, of(7, 3)), loaded(t, of(1, 2))
	wantTake(t, x, o, api.OK)
	if l := x.List(); !slices.Equal(l, []api.Mean{{V: 5, N: 7}, {V: 5, N: 3}, {V: 5, N: 1}, {V: 5, N: 2}}) || len(x.Waits()) != 0 {
		t.Errorf("List: %d, Waits: %d", l, x.Waits())
	}
	hold(t, o, of(1, 2))
	x = loaded(t, of(7, 3))
	wantTake(t, x, x, api.OK)
	if l := x.List(); !slices.Equal(l, []api.Mean{{V: 5, N: 7}, {V: 5, N: 3}, {V: 5, N: 7}, {V: 5, N: 3}}) || len(x.Waits()) != 0 {
		t.Errorf("of itself: List: %d, Waits: %d", l, x.Waits())
	}
	x = empty(t, 10)
	wantTake(t, x, o, api.OK)
	if l := x.List(); !slices.Equal(l, []api.Mean{{V: 5, N: 1}, {V: 5, N: 2}}) || len(x.Waits()) != 0 {
		t.Errorf("by an empty one: List: %d, Waits: %d", l, x.Waits())
	}
}

// P22.3: the ends that come are the other one's, which no mean of it need have.
func TestTakeEnds(t *testing.T) {
	for _, c := range []struct{ least, most, wantLeast, wantMost int64 }{
		{-500, 500, -500, 500},
		{0, 10, -10, 40},
		{-11, 10, -11, 40},
		{0, 41, -10, 41},
		{lowest, highest, lowest, highest},
	} {
		w := &model{10, []api.Mean{{V: 5, N: 1}}, []api.Mean{{V: 6, N: 1}}, c.least, c.most}
		x, _ := made(t, 10, few...)
		wantTake(t, x, loaded(t, w), api.OK)
		if a, b, e := x.Ends(); a != c.wantLeast || b != c.wantMost || e != api.OK {
			t.Errorf("%d: Ends: %d, %d, %d", c, a, b, e)
		}
		x = loaded(t, w)
		o, _ := made(t, 10, few...)
		wantTake(t, x, o, api.OK)
		if a, b, e := x.Ends(); a != c.wantLeast || b != c.wantMost || e != api.OK {
			t.Errorf("%d, the other way round: Ends: %d, %d, %d", c, a, b, e)
		}
		x = empty(t, 10)
		wantTake(t, x, loaded(t, w), api.OK)
		if a, b, e := x.Ends(); a != c.least || b != c.most || e != api.OK {
			t.Errorf("%d, by an empty one: Ends: %d, %d, %d", c, a, b, e)
		}
	}
}

// P22.2 to P22.7, P22.9: any acts on any digests, which may be taken by each other and by themselves.
func TestAnyActs(t *testing.T) {
	dice := rand.New(rand.NewSource(223))
	for range 60 {
		d := anyFineness(dice)
		var l [3]*digest.Digest
		var w [3]*model
		for i := range l {
			w[i] = anyModel(dice, d, 20)
			l[i] = loaded(t, w[i])
		}
		for range 60 {
			i, j := dice.Intn(3), dice.Intn(3)
			switch dice.Intn(16) {
			case 0:
				wantTake(t, l[i], l[j], w[i].take(w[j].copied()))
			case 1:
				l[i] = loaded(t, w[i])
			case 2:
				l[i].Press()
				w[i].press()
			case 3:
				v, n := anyValue(dice), dice.Uint64()>>dice.Intn(64)
				wantAdd(t, l[i], v, n, w[i].add(v, n))
			default:
				v, n := anyValue(dice), uint64(dice.Intn(4))
				wantAdd(t, l[i], v, n, w[i].add(v, n))
			}
			num, den := dice.Uint64()>>dice.Intn(64), dice.Uint64()>>dice.Intn(64)
			for k := range l {
				told := w[k].tale()
				holdAt(t, l[k], told, num, den)
				holdUpto(t, l[k], told, anyValue(dice))
				hold(t, l[k], w[k])
			}
		}
		for k := range l {
			holdAll(t, l[k], w[k])
		}
	}
}
