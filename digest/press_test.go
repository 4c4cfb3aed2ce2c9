package digest_test

import (
	"cmp"
	"math/rand"
	"slices"
	"testing"

	"theodolite/api"
)

// ones are so many means of the weight 1, their numbers step apart from the first one on.
func ones(first, step int64, many int) []api.Mean {
	var l []api.Mean
	for i := range many {
		l = append(l, api.Mean{V: first + step*int64(i), N: 1})
	}
	return l
}

// P22.4: the chapter's bound on what is put together, met just so or missed by as little as may be.
func TestPressBound(t *testing.T) {
	midst := func(v int64) []api.Mean {
		return slices.Concat(ones(10, 10, 9), []api.Mean{{V: v, N: 2}}, ones(120, 10, 9))
	}
	for _, c := range []struct {
		d    int
		l    []api.Mean
		want []api.Mean
	}{
		{10, ones(10, 10, 19), ones(10, 10, 19)}, // 2 10 19 = 380 is above 20 18 = 360
		{10, ones(10, 10, 20), midst(105)},       // 2 10 20 = 400 is 20 20
		{11, ones(10, 10, 20), ones(10, 10, 20)}, // 2 11 20 = 440 isn't
		{10, ones(1, 1, 20), slices.Concat(ones(1, 1, 9), []api.Mean{{V: 10, N: 2}}, ones(12, 1, 9))},
		{10, ones(-20, 1, 20), slices.Concat(ones(-20, 1, 9), []api.Mean{{V: -11, N: 2}}, ones(-9, 1, 9))},
		{10, ones(1, 1, 2), ones(1, 1, 2)},
		{10, []api.Mean{{V: 1, N: full / 2}, {V: 2, N: full / 2}}, []api.Mean{{V: 1, N: full / 2}, {V: 2, N: full / 2}}},
		// 2^43 of twenty at a time: the same bound as above, and one part of 2^43 off it
		{10, scaled(ones(10, 10, 20), 1<<43), scaled(midst(105), 1<<43)},
		{10, heavier(scaled(ones(10, 10, 20), 1<<43), 9), heavier(scaled(ones(10, 10, 20), 1<<43), 9)},
	} {
		for name, l := range map[string][]api.Mean{"rising": c.l, "falling": backward(c.l)} {
			x, _ := made(t, c.d, l...)
			x.Press()
			if got := x.List(); !slices.Equal(got, c.want) || len(x.Waits()) != 0 {
				t.Errorf("%d, %s: List: %d, not %d", c.d, name, got, c.want)
			}
		}
	}
}

// scaled are means of so many times the weight.
func scaled(l []api.Mean, n uint64) []api.Mean {
	l = slices.Clone(l)
	for i := range l {
		l[i].N *= n
	}
	return l
}

// heavier are means, one of which weighs one more.
func heavier(l []api.Mean, i int) []api.Mean {
	l = slices.Clone(l)
	l[i].N++
	return l
}

// backward is a list from its end on.
func backward(l []api.Mean) []api.Mean {
	l = slices.Clone(l)
	slices.Reverse(l)
	return l
}

// P22.4: means of one number stay in their order, the listed ones ahead of those that wait.
func TestPressOrder(t *testing.T) {
	x := loaded(t, &model{10,
		[]api.Mean{{V: 5, N: 7}, {V: 9, N: 4}},
		[]api.Mean{{V: 9, N: 1}, {V: 5, N: 3}, {V: 9, N: 2}, {V: 5, N: 1}}, 5, 9})
	x.Press()
	want := []api.Mean{{V: 5, N: 7}, {V: 5, N: 3}, {V: 5, N: 1}, {V: 9, N: 4}, {V: 9, N: 1}, {V: 9, N: 2}}
	if l := x.List(); !slices.Equal(l, want) {
		t.Errorf("List: %d", l)
	}
}

// P22.4: many means of few numbers, which come in any order, and others of the same that are listed.
func TestPressAny(t *testing.T) {
	dice := rand.New(rand.NewSource(224))
	for range 400 {
		w := anyModel(dice, anyFineness(dice), 60)
		for i := range w.waits {
			w.waits[i].V = w.waits[dice.Intn(i+1)].V
		}
		x := loaded(t, w)
		x.Press()
		w.press()
		hold(t, x, w)
	}
}

// P22.4, P22.8: a long list that pressing didn't make.
func TestPressLong(t *testing.T) {
	for _, d := range []int{10, 1000} {
		w := &model{d, ones(0, 3, 4000), ones(1, 5, d-1), 0, 3 * 4000}
		x := loaded(t, w)
		x.Press()
		w.press()
		hold(t, x, w)
		if n := len(x.List()); n >= 4000 {
			t.Errorf("%d: %d means", d, n)
		}
	}
}

// P22.8: pressing cuts no mean, and loses no weight; what was pressed stays as it is when it is pressed again, for what is beyond the bound already would be so with more weight.
func TestPressAgain(t *testing.T) {
	dice := rand.New(rand.NewSource(225))
	fewer := 0
	for range 300 {
		w := anyModel(dice, anyFineness(dice), 200)
		x := loaded(t, w)
		x.Press()
		l := w.all()
		slices.SortStableFunc(l, func(a, b api.Mean) int { return cmp.Compare(a.V, b.V) })
		wantCoarser(t, l, x.List())
		if n := weight(l).Uint64(); x.Total() != n {
			t.Fatalf("%v: Total: %d, not %d", w, x.Total(), n)
		}
		fewer += len(l) - len(x.List())
		l = x.List()
		x.Press()
		if got := x.List(); !slices.Equal(got, l) {
			t.Fatalf("%v: %d, pressed again: %d", w, l, got)
		}
		if a, b, _ := x.Ends(); a != w.least || b != w.most {
			t.Fatalf("%v: Ends: %d, %d", w, a, b)
		}
	}
	if fewer < 1000 {
		t.Errorf("%d were put to others", fewer)
	}
}

// wantCoarser holds that each mean of a list is one of whole neighbours of another list.
func wantCoarser(t *testing.T, fine, coarse []api.Mean) {
	t.Helper()
	for _, m := range coarse {
		low, high, n := int64(highest), int64(lowest), uint64(0)
		for n < m.N && len(fine) > 0 {
			low, high, n = min(low, fine[0].V), max(high, fine[0].V), n+fine[0].N
			fine = fine[1:]
		}
		if n != m.N || m.V < low || m.V > high {
			t.Fatalf("a mean %d of %d from %d to %d", m, n, low, high)
		}
	}
	if len(fine) > 0 {
		t.Fatalf("lost: %d", fine)
	}
}

// P22.4: an empty digest is pressed to nothing.
func TestPressNothing(t *testing.T) {
	x := empty(t, 10)
	x.Press()
	holdAll(t, x, &model{d: 10})
}
