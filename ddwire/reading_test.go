package ddwire_test

import (
	"encoding/binary"
	"math"
	"math/rand"
	"slices"
	"testing"

	"theodolite/api"
	"theodolite/ddwire"
)

// P21.2: numbers that are no sketch's.
func TestWrongNumbers(t *testing.T) {
	one := []told{{2, 1}}
	for name, f := range map[string]form{
		"too fine":                      formOf(99, 2, 0, one...),
		"too coarse":                    formOf(5001, 2, 0, one...),
		"no accuracy":                   formOf(0, 2, 0, one...),
		"an accuracy of 33 bits":        formOf(1<<32+5000, 2, 0, one...),
		"an accuracy of 64 bits":        formOf(math.MaxUint64-100, 2, 0, one...),
		"a budget too little":           formOf(5000, 1, 0, one...),
		"no budget":                     formOf(5000, 0, 0),
		"a budget too great":            formOf(5000, 4097, 0, one...),
		"a budget of 33 bits":           formOf(5000, 1<<32+2, 0, one...),
		"a budget of 64 bits":           formOf(5000, 1<<63+2, 0, one...),
		"more pairs than may be":        formOf(5000, 2, 0, told{0, 1}, told{0, 1}, told{0, 1}),
		"more pairs told than there":    {5000, 2, 2, 0, one},
		"pairs of 33 bits":              {5000, 2, 1<<32 + 1, 0, one},
		"pairs of 64 bits":              {5000, 2, 1 << 63, 0, nil},
		"pairs of 64 bits, all set":     {5000, 2, math.MaxUint64, 0, nil},
		"fewer pairs told than there":   {5000, 2, 0, 0, one},
		"something folded of nothing":   formOf(5000, 2, 1),
		"folded with fewer pairs":       formOf(5000, 2, 1, told{2, 2}),
		"all of the first folded":       formOf(5000, 2, 3, told{2, 3}, told{0, 1}),
		"more than the first folded":    formOf(5000, 2, 4, told{2, 3}, told{0, 1}),
		"far too much folded":           formOf(5000, 2, math.MaxUint64, told{2, 3}, told{0, 1}),
		"folded below the least key":    formOf(5000, 2, 1, told{-40, 3}, told{0, 1}),
		"a first key too small":         formOf(5000, 2, 0, told{-41, 1}),
		"a first key too great":         formOf(5000, 2, 0, told{41, 1}),
		"a first key of 33 bits":        formOf(5000, 2, 0, told{1<<32 + 1, 1}),
		"the least number as a key":     formOf(5000, 2, 0, told{math.MinInt64, 1}),
		"the greatest number as a key":  formOf(5000, 2, 0, told{math.MaxInt64, 1}),
		"a key beyond the scale":        formOf(5000, 2, 0, told{40, 1}, told{0, 1}),
		"a key far beyond":              formOf(5000, 2, 0, told{-40, 1}, told{1 << 21, 1}),
		"a key of 33 bits":              formOf(5000, 2, 0, told{-40, 1}, told{1 << 32, 1}),
		"all the way round":             formOf(5000, 2, 0, told{2, 1}, told{-1, 1}),
		"round to a lesser key":         formOf(5000, 2, 0, told{2, 1}, told{-3, 1}),
		"round and back":                formOf(5000, 3, 0, told{2, 1}, told{math.MinInt64, 1}, told{math.MinInt64, 1}),
		"round from the greatest":       formOf(5000, 2, 0, told{math.MaxInt64, 1}, told{0, 1}),
		"no count of the first":         formOf(5000, 2, 0, told{2, 0}),
		"no count of another":           formOf(5000, 2, 0, told{2, 1}, told{0, 0}),
		"one too many":                  formOf(5000, 2, 0, told{2, most + 1}),
		"one too many in all":           formOf(5000, 2, 0, told{2, most}, told{0, 1}),
		"far too many":                  formOf(5000, 2, 0, told{2, math.MaxUint64}),
		"far too many in all":           formOf(5000, 3, 0, told{2, math.MaxUint64}, told{0, 2}),
		"one too many, folded with":     formOf(5000, 2, most-1, told{2, most}, told{0, 1}),
		"the finest, beyond its scale":  formOf(100, 2, 0, told{int64(scaleOf(100).Len()) + 1, 1}),
		"the finest, below its scale":   formOf(100, 2, 0, told{-int64(scaleOf(100).Len()) - 1, 1}),
		"the finest, folded at its end": formOf(100, 2, 1, told{-int64(scaleOf(100).Len()), 2}, told{0, 1}),
	} {
		refused(t, name, f.bytes())
	}
	for name, f := range map[string]form{
		"nothing":                   formOf(100, 2, 0),
		"one pair":                  formOf(5000, 2, 0, one...),
		"as many as may be":         formOf(5000, 2, 0, told{0, 1}, told{0, 1}),
		"the least and the last":    formOf(5000, 2, 0, told{-40, 1}, told{79, 1}),
		"folded above the least":    formOf(5000, 2, 1, told{-39, 3}, told{0, 1}),
		"all but one folded":        formOf(5000, 2, 2, told{2, 3}, told{0, 1}),
		"all that may be":           formOf(5000, 2, 0, told{2, most}),
		"all that may be, in two":   formOf(5000, 2, most-2, told{2, most - 1}, told{0, 1}),
		"the finest, at its ends":   formOf(100, 2, 0, told{-int64(scaleOf(100).Len()), 1}, told{2*int64(scaleOf(100).Len()) - 1, 1}),
		"the greatest budget":       formOf(100, 4096, 0, told{-5, 1}, told{9, 1}),
		"the coarsest but one":      formOf(4999, 2, 0, one...),
		"the finest but one, empty": formOf(101, 4095, 0),
	} {
		if b := f.bytes(); !holdRead(t, b) {
			t.Errorf("%s: % x is refused", name, b)
		}
	}
}

// P21.2: numbers that aren't written in as few bytes as may be, or don't end, at each place.
func TestWrongForms(t *testing.T) {
	right := [][]byte{{136, 39}, {2}, {2}, {1}, {4}, {2}, {0}, {1}}
	if !holdRead(t, slices.Concat(right...)) {
		t.Fatal("right")
	}
	for i, was := range right {
		last := len(was) - 1
		longer := append(slices.Clone(was[:last]), was[last]|128, 0)
		for name, b := range map[string][]byte{
			"longer than need be":    longer,
			"ten bytes":              slices.Repeat([]byte{128}, 10),
			"ten bytes, and an end":  append(slices.Repeat([]byte{128}, 10), 1),
			"nine bytes, and no end": slices.Repeat([]byte{255}, 9),
			"beyond 64 bits":         append(slices.Repeat([]byte{255}, 9), 2),
			"nothing":                nil,
		} {
			numbers := slices.Clone(right)
			numbers[i] = b
			refused(t, name, slices.Concat(numbers...))
		}
	}
}

// P21.2: bytes that end early, and those behind which something stands.
func TestCut(t *testing.T) {
	for _, w := range []*model{
		modelOf(5000, 4096), modelOf(5000, 2, api.Pair{Key: 1, N: 1000}, api.Pair{Key: 2, N: 1}, api.Pair{Key: 30, N: 1 << 40}),
		modelOf(100, 3, api.Pair{Key: -900, N: 500}, api.Pair{Key: 900, N: most - 500}),
	} {
		b := w.bytes()
		for n := range b {
			refused(t, "cut", b[:n])
		}
		for c := range 256 {
			refused(t, "one byte more", append(slices.Clone(b), byte(c)))
		}
		refused(t, "twice", slices.Concat(b, b))
	}
}

// P21.2: bytes of any kind.
func TestAnyBytes(t *testing.T) {
	dice := rand.New(rand.NewSource(213))
	met := 0
	for range 30000 {
		b := anyModel(dice).bytes()
		for range 1 + dice.Intn(3) {
			i := dice.Intn(len(b))
			switch dice.Intn(3) {
			case 0:
				b[i] ^= 1 << dice.Intn(8)
			case 1:
				b[i] = byte(dice.Uint32())
			default:
				b = slices.Insert(b, i, byte(dice.Intn(4)))
			}
		}
		if holdRead(t, b) {
			met++
		}
	}
	if met < 3000 || met > 27000 {
		t.Errorf("%d were read", met)
	}
	for range 30000 {
		b := make([]byte, dice.Intn(12))
		for i := range b {
			b[i] = byte(dice.Uint32()) >> dice.Intn(8)
		}
		holdRead(t, b)
	}
}

// P21.2: the accuracy and the budget that bytes begin with, whatever stands behind, or that they may not be.
func TestPeek(t *testing.T) {
	for _, behind := range [][]byte{nil, {0, 0}, {255}, {255, 255, 255, 255, 255, 255, 255, 255, 255, 255, 255}, {2, 2, 0, 2, 1, 0, 1}, make([]byte, 1000)} {
		for _, a := range []uint64{0, 1, 99, 100, 101, 4999, 5000, 5001, 1<<32 + 100, 1<<63 + 5000, math.MaxUint64} {
			for _, m := range []uint64{0, 1, 2, 3, 127, 128, 4095, 4096, 4097, 1<<32 + 2, 1<<63 + 2, math.MaxUint64} {
				b := append(binary.AppendUvarint(binary.AppendUvarint(nil, a), m), behind...)
				was := slices.Clone(b)
				may := a >= 100 && a <= 5000 && m >= 2 && m <= 4096
				x, y, e := ddwire.Peek(b)
				if may && (uint64(x) != a || uint64(y) != m || e != api.OK) || !may && (x != 0 || y != 0 || e != api.ErrBytes) || !slices.Equal(b, was) {
					t.Errorf("Peek(% x): %d, %d, %d", was, x, y, e)
				}
			}
		}
	}
	for _, b := range [][]byte{nil, {}, {136}, {136, 39}, {100}, {100, 128}, {228, 0, 2}, {100, 130, 0}, {100, 130, 128}, slices.Repeat([]byte{255}, 30)} {
		if x, y, e := ddwire.Peek(b); x != 0 || y != 0 || e != api.ErrBytes {
			t.Errorf("Peek(% x): %d, %d, %d", b, x, y, e)
		}
	}
}

// P21.3: the errors of Join, each ahead of those behind it.
func TestJoinErrors(t *testing.T) {
	all := modelOf(5000, 2, api.Pair{Key: 1, N: most - 3}, api.Pair{Key: 2, N: 3}).bytes()
	one := modelOf(5000, 2, api.Pair{Key: 9, N: 1}).bytes()
	coarse := modelOf(4999, 2, api.Pair{Key: 9, N: most}).bytes()
	wide := modelOf(5000, 3, api.Pair{Key: 9, N: most}).bytes()
	empty := modelOf(5000, 2).bytes()
	wrong := append(slices.Clone(one), 0)
	for _, c := range []struct {
		a, b []byte
		want api.Errno
	}{
		{nil, nil, api.ErrBytes}, {one, nil, api.ErrBytes}, {nil, one, api.ErrBytes}, {one, wrong, api.ErrBytes}, {wrong, one, api.ErrBytes},
		{wrong, coarse, api.ErrBytes}, {coarse, wrong, api.ErrBytes}, {all, wrong, api.ErrBytes}, {wrong, all, api.ErrBytes}, {wrong, wrong, api.ErrBytes},
		{one, coarse, api.ErrKind}, {coarse, one, api.ErrKind}, {one, wide, api.ErrKind}, {wide, one, api.ErrKind}, {coarse, wide, api.ErrKind}, {all, wide, api.ErrKind},
		{all, one, api.ErrCap}, {one, all, api.ErrCap}, {all, all, api.ErrCap}, {wide, wide, api.ErrCap},
		{all, empty, api.OK}, {empty, all, api.OK}, {empty, empty, api.OK}, {one, one, api.OK},
	} {
		if e := holdJoin(t, c.a, c.b); e != c.want {
			t.Errorf("Join(% x, % x): %d, not %d", c.a, c.b, e, c.want)
		}
	}
	rest := modelOf(5000, 2, api.Pair{Key: 1, N: most - 1}).bytes()
	if e := holdJoin(t, rest, one); e != api.OK {
		t.Errorf("all that may be: %d", e)
	}
}

// P21.3, P21.4: any sketches are joined, in both orders: what is folded in one of them, in both, or comes to be so.
func TestAnyJoins(t *testing.T) {
	dice := rand.New(rand.NewSource(214))
	for range 3000 {
		x := anyModel(dice)
		y := anyOf(dice, x.a, x.m)
		if dice.Intn(10) == 0 {
			y = anyModel(dice)
		}
		holdJoin(t, x.bytes(), y.bytes())
		holdJoin(t, y.bytes(), x.bytes())
		holdJoin(t, x.bytes(), x.bytes())
	}
}

// P21.3: sketches of the greatest budget are joined key by key.
func TestLongJoin(t *testing.T) {
	x, y := modelOf(100, 4096), modelOf(100, 4096)
	for k := -1900; k <= 1900; k++ {
		switch {
		case k%3 == 0:
			x.count[k] = uint64(k + 2000)
		case k%3 == 1:
			y.count[k] = uint64(k + 3000)
		default:
			x.count[k], y.count[k] = 1, 2
		}
	}
	if e := holdJoin(t, x.bytes(), y.bytes()); e != api.OK {
		t.Errorf("Join: %d", e)
	}
}

// P21.2: few bytes that tell of far more pairs are refused at once.
func TestManyTold(t *testing.T) {
	for _, many := range []uint64{3, 4096, 1 << 20, 1 << 21, 1<<31 - 1, 1 << 40, 1<<63 - 1, 1 << 63, math.MaxUint64} {
		for range 200 {
			refused(t, "many told", form{5000, 4096, many, 0, []told{{2, 1}}}.bytes())
		}
	}
}
