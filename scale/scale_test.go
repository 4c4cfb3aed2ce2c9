package scale_test

import (
	"math/big"
	"math/rand"
	"slices"
	"testing"

	"theodolite/api"
	"theodolite/scale"
)

// wantNumbers holds the three numbers of a key's range, and their error, against those that are wanted.
func wantNumbers(t *testing.T, s *scale.Scale, k int, want place, f api.Errno) {
	t.Helper()
	for _, c := range []struct {
		name string
		call func(int) (int64, api.Errno)
		want int64
	}{{"Low", s.Low, want.begin}, {"Mid", s.Mid, want.middle}, {"High", s.High, want.end}} {
		if n, e := c.call(k); n != c.want || e != f {
			t.Fatalf("accuracy %d: %s(%d): %d, %d, not %d, %d", s.Accuracy(), c.name, k, n, e, c.want, f)
		}
	}
}

// wantKey holds Key of a number against what is wanted.
func wantKey(t *testing.T, s *scale.Scale, v int64, want int, f api.Errno) {
	t.Helper()
	if k, e := s.Key(v); k != want || e != f {
		t.Fatalf("accuracy %d: Key(%d): %d, %d, not %d, %d", s.Accuracy(), v, k, e, want, f)
	}
}

// wantNear holds Near of a number against what is wanted.
func wantNear(t *testing.T, s *scale.Scale, v, want int64, f api.Errno) {
	t.Helper()
	if n, e := s.Near(v); n != want || e != f {
		t.Fatalf("accuracy %d: Near(%d): %d, %d, not %d, %d", s.Accuracy(), v, n, e, want, f)
	}
}

// P12.1 to P12.4: the chapter's examples.
func TestExamples(t *testing.T) {
	s := made(t, 5000)
	for k, want := range []place{{}, {1, 1, 2}, {3, 4, 8}, {9, 13, 26}} {
		wantNumbers(t, s, k, want, api.OK)
	}
	wantKey(t, s, 8, 2, api.OK)
	wantNear(t, s, 8, 4, api.OK)
	wantKey(t, s, -3, -2, api.OK)
	if n, e := s.Low(-2); n != -8 || e != api.OK {
		t.Errorf("Low(-2): %d, %d", n, e)
	}
	s = made(t, 100)
	wantKey(t, s, 98, 98, api.OK)
	wantNear(t, s, 98, 98, api.OK)
}

// P12.1: accuracies that may not be have no scale.
func TestNewRefuses(t *testing.T) {
	for _, a := range []int{least, least + 5000, -5000, -100, -1, 0, 1, 50, 98, 99, 5001, 5002, 9999, 10000, 10001, 1<<32 + 100, most} {
		if s, e := scale.New(a); s != nil || e != api.ErrArg {
			t.Errorf("New(%d): %v, %d", a, s, e)
		}
	}
}

// P12.1: how many ranges there are.
func TestLen(t *testing.T) {
	for a, want := range map[int]int{100: 2050, 101: 2031, 200: 1042, 333: 634, 1000: 215, 2500: 86, 3333: 65, 4999: 41, 5000: 40} {
		if s := made(t, a); s.Len() != want || s.Accuracy() != a {
			t.Errorf("New(%d): %d ranges of the accuracy %d, not %d", a, s.Len(), s.Accuracy(), want)
		}
	}
}

// P12.1, P12.3: of each accuracy that may be all ranges, on both sides of 0, and the keys beyond them.
func TestRanges(t *testing.T) {
	for a := 100; a <= 5000; a++ {
		s, l := made(t, a), ranges(a)
		if s.Accuracy() != a || s.Len() != len(l) {
			t.Fatalf("New(%d): %d ranges of the accuracy %d, not %d", a, s.Len(), s.Accuracy(), len(l))
		}
		for k := -len(l) - 2; k <= len(l)+2; k++ {
			want, f := placeOf(l, k)
			wantNumbers(t, s, k, want, f)
		}
	}
}

// P12.3: the first ranges, the last ones, whose middle, or whose end alone, is cut off at 2^63 - 1, and 0's own.
func TestNumbers(t *testing.T) {
	for _, c := range []struct {
		a, k int
		want place
	}{
		{100, 0, place{0, 0, 0}},
		{100, 1, place{1, 1, 1}},
		{100, 98, place{98, 98, 98}},
		{100, 99, place{99, 99, 100}},
		{100, 100, place{101, 102, 103}},
		{100, -100, place{-103, -102, -101}},
		{100, 2049, place{8968920137675515556, 9058609339052270711, 9150110443487142132}},
		{100, 2050, place{9150110443487142133, most, most}},
		{100, -2050, place{-most, -most, -9150110443487142133}},
		{101, 2031, place{9074777625538044971, 9166432879555979225, most}},
		{101, -2031, place{-most, -9166432879555979225, -9074777625538044971}},
		{1000, 9, place{9, 9, 10}},
		{1000, 10, place{11, 12, 13}},
		{1000, 215, place{8270806773061238932, 9097887450367362825, most}},
		{2500, 86, place{8491079400087582082, most, most}},
		{5000, 0, place{0, 0, 0}},
		{5000, -1, place{-2, -1, -1}},
		{5000, 6, place{243, 364, 728}},
		{5000, 39, place{1350851717672992089, 2026277576509488133, 4052555153018976266}},
		{5000, 40, place{4052555153018976267, 6078832729528464400, most}},
		{5000, -40, place{-most, -6078832729528464400, -4052555153018976267}},
	} {
		wantNumbers(t, made(t, c.a), c.k, c.want, api.OK)
	}
}

// P12.3: keys that have no range.
func TestNumbersRefuse(t *testing.T) {
	for _, a := range accuracies() {
		s := made(t, a)
		for _, k := range []int{s.Len() + 1, -s.Len() - 1, s.Len() + 2, -s.Len() - 2, 2 * s.Len(), 1 << 20, -1 << 20, 1 << 32, most, -most, least} {
			wantNumbers(t, s, k, place{}, api.ErrArg)
		}
	}
}

// P12.2, P12.4: of numbers about the ends and the middle of each range, and of any, the key and the number that stands for them.
func TestKeyAndNear(t *testing.T) {
	dice := rand.New(rand.NewSource(1))
	for _, a := range accuracies() {
		s, l := made(t, a), ranges(a)
		hold := func(v int64) {
			t.Helper()
			k, f := keyOf(l, v)
			wantKey(t, s, v, k, f)
			p, _ := placeOf(l, k)
			wantNear(t, s, v, p.middle, f)
		}
		for _, p := range l {
			for _, v := range []int64{p.begin, p.middle, p.end} {
				for _, w := range []int64{v - 1, v, min(v, most-1) + 1} {
					hold(w)
					hold(-w)
				}
			}
		}
		for v := int64(-1000); v <= 1000; v++ {
			hold(v)
		}
		for range 2000 {
			hold(anyNumber(dice))
		}
		hold(least)
	}
}

// P12.2, P12.4: the ends of all numbers, and what stands about 0.
func TestKeyEdges(t *testing.T) {
	for _, c := range []struct {
		a    int
		v    int64
		k    int
		near int64
		e    api.Errno
	}{
		{100, 0, 0, 0, api.OK},
		{100, 1, 1, 1, api.OK},
		{100, -1, -1, -1, api.OK},
		{100, 99, 99, 99, api.OK},
		{100, 100, 99, 99, api.OK},
		{100, 101, 100, 102, api.OK},
		{100, -100, -99, -99, api.OK},
		{100, most, 2050, most, api.OK},
		{100, -most, -2050, -most, api.OK},
		{100, 9150110443487142132, 2049, 9058609339052270711, api.OK},
		{100, 9150110443487142133, 2050, most, api.OK},
		{100, least, 0, 0, api.ErrRange},
		{5000, 0, 0, 0, api.OK},
		{5000, 2, 1, 1, api.OK},
		{5000, 3, 2, 4, api.OK},
		{5000, -2, -1, -1, api.OK},
		{5000, most, 40, 6078832729528464400, api.OK},
		{5000, -most, -40, -6078832729528464400, api.OK},
		{5000, -4052555153018976266, -39, -2026277576509488133, api.OK},
		{5000, least, 0, 0, api.ErrRange},
	} {
		s := made(t, c.a)
		wantKey(t, s, c.v, c.k, c.e)
		wantNear(t, s, c.v, c.near, c.e)
	}
}

// P12.5: what stands for a number is as near as was asked; what stands for that is itself.
func TestNearness(t *testing.T) {
	dice := rand.New(rand.NewSource(2))
	for _, a := range accuracies() {
		s := made(t, a)
		hold := func(v int64) {
			t.Helper()
			n, e := s.Near(v)
			if e != api.OK {
				t.Fatalf("accuracy %d: Near(%d): %d", a, v, e)
			}
			off := new(big.Int).Mul(big.NewInt(10000), distance(n, v))
			if off.Cmp(new(big.Int).Mul(big.NewInt(int64(a)), distance(v, 0))) > 0 {
				t.Fatalf("accuracy %d: Near(%d) is %d, too far off", a, v, n)
			}
			wantNear(t, s, n, n, api.OK)
		}
		for k := -s.Len(); k <= s.Len(); k++ {
			low, _ := s.Low(k)
			high, _ := s.High(k)
			hold(low)
			hold(high)
		}
		for range 5000 {
			v := anyNumber(dice)
			hold(max(v, -most))
		}
	}
}

// P12.5: a greater number has no lesser key; between the ranges are no gaps.
func TestRises(t *testing.T) {
	dice := rand.New(rand.NewSource(3))
	for _, a := range accuracies() {
		s := made(t, a)
		l := []int64{-most, -1, 0, 1, most}
		for range 5000 {
			v := anyNumber(dice)
			l = append(l, max(v, -most), min(max(v, -most), most-1)+1)
		}
		slices.Sort(l)
		was := -s.Len()
		for _, v := range l {
			k, e := s.Key(v)
			if k < was || k > s.Len() || e != api.OK {
				t.Fatalf("accuracy %d: Key(%d): %d, %d behind %d", a, v, k, e, was)
			}
			was = k
		}
		end := int64(-most - 1)
		for k := -s.Len(); k <= s.Len(); k++ {
			low, _ := s.Low(k)
			if low != end+1 {
				t.Fatalf("accuracy %d: Low(%d): %d behind %d", a, k, low, end)
			}
			end, _ = s.High(k)
		}
		if end != most {
			t.Fatalf("accuracy %d: the ranges end with %d", a, end)
		}
	}
}

// The rules that hold everywhere: what is asked, or refused, changes nothing; scales share nothing.
func TestAnswers(t *testing.T) {
	s, other := made(t, 1000), made(t, 1000)
	for _, v := range []int64{least, most, 0, -7} {
		s.Key(v)
		s.Near(v)
	}
	for _, k := range []int{least, most, 216, -216, 215} {
		s.Low(k)
		s.Mid(k)
		s.High(k)
	}
	made(t, 5000)
	l := ranges(1000)
	for _, s := range []*scale.Scale{s, other} {
		if s.Len() != len(l) || s.Accuracy() != 1000 {
			t.Fatalf("%d ranges of the accuracy %d", s.Len(), s.Accuracy())
		}
		for k := -len(l); k <= len(l); k++ {
			want, f := placeOf(l, k)
			wantNumbers(t, s, k, want, f)
		}
	}
}
