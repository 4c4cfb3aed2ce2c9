package tdwire_test

import (
	"math"
	"math/big"
	"math/rand"
	"slices"
	"testing"

	"theodolite/api"
)

// mean is a mean that stands by itself.
func mean(v int64, n uint64) told { return told{big.NewInt(v), n} }

// above is a listed mean behind another one.
func above(v, n uint64) told { return told{unsigned(v), n} }

// formOf are the numbers of some means, whose counts are told as they are.
func formOf(d uint64, least, most int64, list, waits []told) form {
	return form{d, least, most, uint64(len(list)), list, uint64(len(waits)), waits}
}

// wide are the numbers of such a list alone, with the farthest ends.
func wide(list ...told) form { return formOf(10, lowest, highest, list, nil) }

// waiting are the numbers of such that wait, with the farthest ends.
func waiting(waits ...told) form { return formOf(10, lowest, highest, nil, waits) }

// P23.1, P23.3: numbers that are no digest's.
func TestWrongNumbers(t *testing.T) {
	one, ten := []told{mean(2, 1)}, slices.Repeat([]told{mean(2, 1)}, 10)
	for name, f := range map[string]form{
		"too coarse":                     formOf(9, 2, 2, one, nil),
		"too fine":                       formOf(1001, 2, 2, one, nil),
		"no fineness":                    formOf(0, 0, 0, nil, nil),
		"a fineness of 33 bits":          formOf(1<<32+10, 2, 2, one, nil),
		"a fineness of 64 bits":          formOf(1<<63+10, 2, 2, one, nil),
		"a fineness of all bits":         formOf(math.MaxUint64, 0, 0, nil, nil),
		"nothing from 1 on":              formOf(10, 1, 0, nil, nil),
		"nothing from -1 on":             formOf(10, -1, 0, nil, nil),
		"nothing up to 1":                formOf(10, 0, 1, nil, nil),
		"nothing at 5":                   formOf(10, 5, 5, nil, nil),
		"nothing from end to end":        formOf(10, lowest, highest, nil, nil),
		"below the least":                formOf(10, 3, 9, one, nil),
		"below the least, waits":         formOf(10, 3, 9, []told{mean(4, 1)}, one),
		"above the greatest":             formOf(10, 0, 1, one, nil),
		"above the greatest, later":      formOf(10, 2, 6, []told{mean(2, 1), above(3, 1), above(2, 1)}, nil),
		"above the greatest, waits":      formOf(10, 2, 6, one, []told{mean(7, 1)}),
		"ends are turned":                formOf(10, 3, 1, one, nil),
		"no weight":                      wide(mean(2, 0)),
		"no weight of another":           wide(mean(2, 1), above(0, 0)),
		"no weight of one that waits":    waiting(mean(2, 0)),
		"no weight of the last one":      waiting(mean(2, 1), mean(2, 0)),
		"one too many":                   wide(mean(2, full+1)),
		"one too many wait":              waiting(mean(2, full+1)),
		"one too many in all":            wide(mean(2, full), above(0, 1)),
		"one too many in both":           formOf(10, 2, 2, []told{mean(2, full)}, one),
		"one too many that wait":         waiting(mean(2, 1), mean(2, full)),
		"far too many":                   wide(mean(2, math.MaxUint64)),
		"far too many, and round":        wide(mean(2, math.MaxUint64), above(0, 2)),
		"round to nothing":               waiting(mean(0, 1<<63), mean(0, 1<<63)),
		"as many wait as fineness":       waiting(ten...),
		"as many wait with a list":       formOf(10, 2, 2, one, ten),
		"more wait":                      waiting(append(ten, one...)...),
		"more means told than there":     {10, 2, 2, 2, one, 0, nil},
		"means of 33 bits":               {10, 2, 2, 1<<32 + 1, one, 0, nil},
		"means of 64 bits":               {10, 2, 2, 1<<63 + 1, one, 0, nil},
		"means of all bits":              {10, 2, 2, math.MaxUint64, one, 0, nil},
		"none of 8 bits there":           {10, 0, 0, 1 << 8, nil, 0, nil},
		"none of 32 bits there":          {10, 0, 0, 1 << 32, nil, 0, nil},
		"none of 64 bits there":          {10, 0, 0, 1 << 63, nil, 0, nil},
		"none of all bits there":         {10, 0, 0, math.MaxUint64, nil, 0, nil},
		"fewer means told than there":    {10, 2, 2, 0, one, 0, nil},
		"more waits told than there":     {10, 2, 2, 0, nil, 2, one},
		"waits of 33 bits":               {10, 2, 2, 0, nil, 1<<32 + 1, one},
		"waits of 64 bits":               {10, 2, 2, 0, nil, 1<<63 + 1, one},
		"waits of all bits":              {10, 2, 2, 0, nil, math.MaxUint64, one},
		"no waits of 32 bits there":      {10, 0, 0, 0, nil, 1 << 32, nil},
		"no waits of 64 bits there":      {10, 0, 0, 0, nil, 1 << 63, nil},
		"no waits of all bits there":     {10, 0, 0, 0, nil, math.MaxUint64, nil},
		"fewer waits told than there":    {10, 2, 2, 0, nil, 0, one},
		"no more waits told than a list": {10, 2, 2, 1, one, 0, one},
		"round by 1":                     wide(mean(highest, 1), above(1, 1)),
		"round by all":                   wide(mean(highest, 1), above(math.MaxUint64, 1)),
		"round to one less":              wide(mean(2, 1), above(math.MaxUint64, 1)),
		"round from 0":                   wide(mean(0, 1), above(1<<63, 1)),
		"round from above the least":     wide(mean(lowest+1, 1), above(math.MaxUint64, 1)),
		"round and back":                 wide(mean(0, 1), above(1<<63, 1), above(1<<63, 1)),
		"round at last":                  wide(mean(lowest, 1), above(math.MaxUint64, 1), above(1, 1)),
		"round to the least":             wide(mean(lowest, 1), above(1<<63, 1), above(1<<63, 1)),
	} {
		refused(t, name, f.bytes())
	}
}

// P23.1, P23.3, P23.4: numbers that are a digest's just so.
func TestRightNumbers(t *testing.T) {
	one, nine := []told{mean(2, 1)}, slices.Repeat([]told{mean(2, 1)}, 9)
	for name, f := range map[string]form{
		"nothing":                  formOf(10, 0, 0, nil, nil),
		"nothing, finest":          formOf(1000, 0, 0, nil, nil),
		"one is listed":            formOf(1000, 2, 2, one, nil),
		"one waits":                formOf(10, 2, 2, nil, one),
		"farther ends":             formOf(10, 1, 3, one, one),
		"the farthest ends":        wide(one...),
		"all but one wait":         waiting(nine...),
		"all but one wait, listed": formOf(10, 2, 2, one, nine),
		"all that may be":          wide(mean(2, full)),
		"all that may be, waits":   waiting(mean(2, full)),
		"all that may be, both":    formOf(10, 2, 9, []told{mean(2, full-3), above(7, 1)}, []told{mean(9, 1), mean(2, 1)}),
		"the same again":           wide(mean(2, 1), above(0, 1), above(0, 5)),
		"from end to end":          wide(mean(lowest, 1), above(math.MaxUint64, 1)),
		"from end to end, twice":   wide(mean(lowest, 1), above(0, 1), above(math.MaxUint64, 1), above(0, 1)),
		"from the least to 0":      wide(mean(lowest, 1), above(1<<63, 1), above(1<<63-1, 1)),
		"from -1 to the greatest":  wide(mean(-1, 1), above(1<<63, 1)),
		"from 0 to the greatest":   wide(mean(0, 1), above(1<<63-1, 1)),
		"the farthest ones wait":   waiting(mean(highest, 1), mean(lowest, 1), mean(highest, 1)),
		"more than are pressed":    formOf(10, 0, 199, append([]told{mean(0, 1)}, slices.Repeat([]told{above(1, 1)}, 199)...), nil),
	} {
		if b := f.bytes(); !holdRead(t, b) {
			t.Errorf("%s: % x is refused", name, b)
		}
	}
}

// P23.1: numbers that aren't written in as few bytes as may be, or don't end, at each place.
func TestWrongForms(t *testing.T) {
	right := [][]byte{{138, 1}, {1}, {8}, {2}, {1}, {3}, {5}, {129, 1}, {2}, {8}, {1}, {0}, {2}}
	if !holdRead(t, slices.Concat(right...)) {
		t.Fatal("right")
	}
	for i, was := range right {
		last := len(was) - 1
		longer := append(slices.Clone(was[:last]), was[last]|128, 0)
		for name, b := range map[string][]byte{
			"longer than need be":    longer,
			"ten bytes":              slices.Repeat([]byte{128}, 10),
			"ten bytes, and an end":  append(slices.Repeat([]byte{128}, 10), 1),
			"nine bytes, and no end": slices.Repeat([]byte{255}, 9),
			"beyond 64 bits":         append(slices.Repeat([]byte{255}, 9), 2),
			"nothing":                nil,
		} {
			numbers := slices.Clone(right)
			numbers[i] = b
			refused(t, name, slices.Concat(numbers...))
		}
	}
}

// P23.1: bytes that end early, and those behind which something stands.
func TestCut(t *testing.T) {
	for _, w := range []*model{
		modelOf(1000, nil, nil),
		modelOf(10, []api.Mean{{V: -900, N: 500}, {V: 900, N: full - 503}}, []api.Mean{{V: 1, N: 1}, {V: -1000, N: 2}}),
		modelOf(10, []api.Mean{{V: lowest, N: 1}, {V: highest, N: 1}}, nil),
		modelOf(10, nil, []api.Mean{{V: highest, N: 300}, {V: lowest, N: 1 << 40}}),
	} {
		b := w.bytes()
		for n := range b {
			refused(t, "cut", b[:n])
		}
		for c := range 256 {
			refused(t, "one byte more", append(slices.Clone(b), byte(c)))
		}
		refused(t, "twice", slices.Concat(b, b))
	}
	refused(t, "no bytes", nil)
}

// P23.1, P23.3, P23.4: bytes of any kind.
func TestAnyBytes(t *testing.T) {
	dice := rand.New(rand.NewSource(234))
	met := 0
	for range 30000 {
		b := anyModel(dice, anyFineness(dice)).bytes()
		for range 1 + dice.Intn(3) {
			i := dice.Intn(len(b))
			switch dice.Intn(3) {
			case 0:
				b[i] ^= 1 << dice.Intn(8)
			case 1:
				b[i] = byte(dice.Uint32())
			default:
				b = slices.Insert(b, i, byte(dice.Intn(4)))
			}
		}
		if holdRead(t, b) {
			met++
		}
	}
	if met < 1000 || met > 27000 {
		t.Errorf("%d were read", met)
	}
	for range 30000 {
		b := make([]byte, dice.Intn(14))
		for i := range b {
			b[i] = byte(dice.Uint32()) >> dice.Intn(8)
		}
		holdRead(t, b)
	}
}

// P23.1: few bytes that tell of far more means are refused at once.
func TestManyTold(t *testing.T) {
	one := []told{mean(2, 1)}
	for _, many := range []uint64{2, 999, 1 << 20, 1<<31 - 1, 1 << 40, 1<<63 - 1, 1 << 63, math.MaxUint64} {
		for range 200 {
			refused(t, "many are listed", form{1000, 2, 2, many, one, 0, nil}.bytes())
			refused(t, "many wait", form{1000, 2, 2, 1, one, many, one}.bytes())
		}
	}
}

// P23.2: the errors of Join, each ahead of those behind it.
func TestJoinErrors(t *testing.T) {
	all := modelOf(10, []api.Mean{{V: 1, N: full - 3}}, []api.Mean{{V: 2, N: 3}}).bytes()
	one := modelOf(10, nil, []api.Mean{{V: 9, N: 1}}).bytes()
	fine := modelOf(11, nil, []api.Mean{{V: 9, N: full}}).bytes()
	none, fineNone := modelOf(10, nil, nil).bytes(), modelOf(11, nil, nil).bytes()
	wrong := append(slices.Clone(one), 0)
	for _, c := range []struct {
		a, b []byte
		want api.Errno
	}{
		{nil, nil, api.ErrBytes}, {one, nil, api.ErrBytes}, {nil, one, api.ErrBytes}, {one, wrong, api.ErrBytes}, {wrong, one, api.ErrBytes},
		{wrong, fine, api.ErrBytes}, {fine, wrong, api.ErrBytes}, {all, wrong, api.ErrBytes}, {wrong, all, api.ErrBytes}, {wrong, wrong, api.ErrBytes},
		{none, wrong, api.ErrBytes}, {wrong, none, api.ErrBytes},
		{one, fine, api.ErrKind}, {fine, one, api.ErrKind}, {all, fine, api.ErrKind}, {one, fineNone, api.ErrKind}, {fineNone, one, api.ErrKind}, {none, fineNone, api.ErrKind},
		{all, one, api.ErrCap}, {one, all, api.ErrCap}, {all, all, api.ErrCap}, {fine, fine, api.ErrCap},
		{all, none, api.OK}, {none, all, api.OK}, {none, none, api.OK}, {one, one, api.OK},
	} {
		if e := holdJoin(t, c.a, c.b); e != c.want {
			t.Errorf("Join(% x, % x): %d, not %d", c.a, c.b, e, c.want)
		}
	}
	rest := modelOf(10, []api.Mean{{V: 1, N: full - 1}}, nil).bytes()
	if e := holdJoin(t, rest, one); e != api.OK {
		t.Errorf("all that may be: %d", e)
	}
}

// P23.2, P23.4: what takes nothing stays as it is, with what waits; what takes something is pressed.
func TestJoinNothing(t *testing.T) {
	none := modelOf(10, nil, nil)
	w := modelOf(10, []api.Mean{{V: 1, N: 1}, {V: 7, N: 2}}, []api.Mean{{V: 9, N: 1}, {V: -9, N: 1}})
	w.least, w.most = -20, 20
	if j := w.joined(none); !slices.Equal(j.bytes(), w.bytes()) || holdJoin(t, w.bytes(), none.bytes()) != api.OK {
		t.Errorf("% x", j.bytes())
	}
	if j := none.joined(w); len(j.waits) > 0 || j.least != -20 || j.most != 20 || holdJoin(t, none.bytes(), w.bytes()) != api.OK {
		t.Errorf("%v", j)
	}
}

// P23.2, P23.4: any digests are joined, in both orders, and with themselves.
func TestAnyJoins(t *testing.T) {
	dice := rand.New(rand.NewSource(235))
	for range 2000 {
		d := anyFineness(dice)
		x, y := anyModel(dice, d), anyModel(dice, d)
		if dice.Intn(10) == 0 {
			y = anyModel(dice, anyFineness(dice))
		}
		holdJoin(t, x.bytes(), y.bytes())
		holdJoin(t, y.bytes(), x.bytes())
		holdJoin(t, x.bytes(), x.bytes())
	}
}

// P23.2, P23.3: what is joined weighs as much as both, one by one; no weight is lost.
func TestJoinedWeight(t *testing.T) {
	dice := rand.New(rand.NewSource(236))
	b, all := modelOf(100, nil, nil).bytes(), uint64(0)
	for range 200 {
		o := anyModel(dice, 100)
		all += o.total()
		w := read(b).joined(o)
		if e := holdJoin(t, b, o.bytes()); e != api.OK || w.total() != all {
			t.Fatalf("Join: %d; %d, not %d", e, w.total(), all)
		}
		b = w.bytes()
	}
}
