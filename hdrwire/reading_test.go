package hdrwire_test

import (
	"bytes"
	"compress/flate"
	"math"
	"math/rand"
	"slices"
	"strconv"
	"testing"

	"theodolite/adler"
	"theodolite/api"
	"theodolite/deflate"
	"theodolite/hdrwire"
	"theodolite/zlib"
)

// P19.2: each number of a head that isn't what it has to be, ahead of a row that would be right.
func TestHeads(t *testing.T) {
	behind := row(-2, 3)
	right := headOf(example, len(behind))
	for i, change := range []func(h *head){
		func(h *head) { h.mark++ }, func(h *head) { h.mark-- }, func(h *head) { h.mark = 0 }, func(h *head) { h.mark = 0x1C849303 }, func(h *head) { h.mark ^= 1 << 31 },
		func(h *head) { h.behind++ }, func(h *head) { h.behind-- }, func(h *head) { h.behind = 0 }, func(h *head) { h.behind += 40 }, func(h *head) { h.behind ^= 1 << 31 }, func(h *head) { h.behind = math.MaxUint32 },
		func(h *head) { h.zero = 1 }, func(h *head) { h.zero = 1 << 31 }, func(h *head) { h.zero = math.MaxUint32 },
		func(h *head) { h.digits = 0 }, func(h *head) { h.digits = 6 }, func(h *head) { h.digits = 1 << 31 }, func(h *head) { h.digits = math.MaxUint32 }, func(h *head) { h.digits = 1<<16 + 3 },
		func(h *head) { h.lowest = 0 }, func(h *head) { h.lowest = 1001 }, func(h *head) { h.lowest = math.MaxUint64 }, func(h *head) { h.lowest = 1 << 63 }, func(h *head) { h.lowest = 1<<63 + 1 },
		func(h *head) { h.reach = 0 }, func(h *head) { h.reach = 1 }, func(h *head) { h.reach = 1 << 63 }, func(h *head) { h.reach = 1<<63 + 2000 }, func(h *head) { h.reach = math.MaxUint64 },
		func(h *head) { h.lowest, h.reach = 1<<52, 1<<62 }, func(h *head) { h.lowest, h.reach = 1<<62, last }, func(h *head) { h.lowest, h.reach = 1<<63, 1<<63 }, func(h *head) { h.lowest, h.reach = 1<<62, 1<<63 },
		func(h *head) { h.ratio = 0 }, func(h *head) { h.ratio = 1 }, func(h *head) { h.ratio++ }, func(h *head) { h.ratio = 0x4000000000000000 }, func(h *head) { h.ratio ^= 1 << 63 },
	} {
		h := right
		change(&h)
		b := append(h.bytes(), behind...)
		refused(t, "head "+strconv.Itoa(i), b)
		notOpened(t, "a head", wrapped(zlib.Pack(b)))
	}
	for i, change := range []func(h *head){
		func(h *head) {}, func(h *head) { h.digits = 1 }, func(h *head) { h.digits = 5 }, func(h *head) { h.lowest = 1000 },
		func(h *head) { h.reach = 2 }, func(h *head) { h.reach = last }, func(h *head) { h.lowest, h.reach = 1<<52-1, 1<<53-2 },
	} {
		h := right
		change(&h)
		if b := append(h.bytes(), behind...); !holdRead(t, b) {
			t.Errorf("right head %d: % x", i, b)
		}
	}
}

// P19.2: rows that aren't one's, the shape having 2048 cells: zeros that stand otherwise, cells that it hasn't, numbers in other forms, more than may be in all.
func TestRows(t *testing.T) {
	for name, b := range map[string][]byte{
		"no numbers":                    {},
		"one zero as a run":             row(-1, 3),
		"a run of none":                 row(-1),
		"two zeros":                     row(0, 0, 3),
		"many zeros":                    row(0, 0, 0, 0, 3),
		"a zero and a run":              row(0, -2, 3),
		"a run and a zero":              row(-2, 0, 3),
		"two runs":                      row(-2, -3, 5),
		"two zeros between":             row(1, 0, 0, 3),
		"a zero behind":                 row(3, 0),
		"a run behind":                  row(3, -2),
		"a run up to the last cell":     row(3, -2047),
		"zeros alone":                   row(0, 0),
		"a run alone":                   row(-2),
		"a run of all cells":            row(-2048),
		"all cells one by one":          row(make([]int64, 2048)...),
		"more than all cells":           row(make([]int64, 2049)...),
		"beyond the cells":              row(-2048, 1),
		"beyond them by a run":          row(-2049, 1),
		"far beyond":                    row(-(1 << 40), 1),
		"beyond behind one":             row(1, -2047, 1),
		"beyond behind a zero":          row(0, 1, -2046, 1),
		"beyond by the last":            row(-2047, 1, 1),
		"the least number":              row(math.MinInt64, 1),
		"the least number, behind":      row(1, math.MinInt64),
		"the least numbers":             row(math.MinInt64, math.MinInt64, 1),
		"all the way round":             row(math.MinInt64, 5, math.MinInt64, 1),
		"nearly the least":              row(math.MinInt64+1, 1),
		"round and back":                row(math.MinInt64+1, 1, math.MinInt64+1, 1),
		"the greatest number":           row(math.MaxInt64),
		"one too many":                  row(most + 1),
		"one too many in all":           row(most, 1),
		"far too many in all":           row(math.MaxInt64, math.MaxInt64, 3),
		"one too many, zeros between":   row(most-5, -7, 6),
		"zero in two bytes":             {128, 0},
		"a count in two bytes":          {134, 0},
		"a count in nine bytes":         {134, 128, 128, 128, 128, 128, 128, 128, 0},
		"a number that has no end":      {134},
		"a number that has no end, far": {2, 255, 255, 255, 255, 255, 255, 255, 255},
	} {
		refused(t, name, formOf(example, b))
	}
	for name, b := range map[string][]byte{
		"nothing":                  row(0),
		"the first cell":           row(1),
		"a zero":                   row(0, 1),
		"a run":                    row(-2, 1),
		"runs":                     row(-2, 1, -2, 1, 0, 1),
		"the last cell":            row(-2047, 1),
		"the last cell, behind":    row(1, -2046, 1),
		"the last cell, one ahead": row(-2046, 1, 1),
		"all cells":                row(slices.Repeat([]int64{1}, 2048)...),
		"all that may be":          row(most),
		"all that may be, in two":  row(most-5, -7, 5),
	} {
		if b := formOf(example, b); !holdRead(t, b) {
			t.Errorf("%s: % x", name, cut(b))
		}
	}
}

// P19.2: the last cell that each shape has, and the first one that it hasn't.
func TestLastCells(t *testing.T) {
	for _, h := range shapes {
		at := int64(cells(h))
		if b := formOf(h, row(1-at, 9)); !holdRead(t, b) {
			t.Errorf("%d: cell %d", h, at-1)
		}
		refused(t, "one beyond the last cell", formOf(h, row(-at, 9)))
	}
}

// P19.2: forms that end early, and those behind which something stands, their length told as it was or as it is.
func TestCut(t *testing.T) {
	x := of(t, example, api.Pair{Key: 0, N: 1000}, api.Pair{Key: 700, N: 1 << 40}, api.Pair{Key: 701, N: 5})
	b := plainOf(x)
	for n := range b {
		refused(t, "cut", b[:n])
	}
	for n := range b[inHead:] {
		cutRow := formOf(example, b[inHead:inHead+n])
		if got, want := holdRead(t, cutRow), n == 2 || n == len(b)-inHead-1; got != want {
			t.Errorf("cut with its length: % x: %t", cutRow, got)
		}
	}
	for c := range 256 {
		refused(t, "one byte more", append(slices.Clone(b), byte(c)))
		more := formOf(example, b[inHead:], []byte{byte(c)})
		if got, want := holdRead(t, more), c < 128 && c > 0 && c%2 == 0; got != want {
			t.Errorf("one byte more, with its length: % x: %t", more, got)
		}
	}
	z, _ := hdrwire.Pack(x)
	for n := range z {
		notOpened(t, "cut", z[:n])
		notOpened(t, "cut, with its length", wrapped(z[8:max(n, 8)]))
	}
	for c := range 256 {
		notOpened(t, "one byte more", append(slices.Clone(z), byte(c)))
		notOpened(t, "one byte more, with its length", wrapped(append(slices.Clone(z[8:]), byte(c))))
	}
}

// P19.2: a form is read as its own kind alone.
func TestOtherForm(t *testing.T) {
	x := of(t, example, api.Pair{Key: 5, N: 1})
	b, z := plainOf(x), wrapped(zlib.Pack(plainOf(x)))
	if y, e := hdrwire.Open(z); e != api.OK || !slices.Equal(y.Pairs(), x.Pairs()) {
		t.Fatalf("Open: %s, %d", named(y), e)
	}
	refused(t, "a compressed form", z)
	notOpened(t, "a plain form", b)
	notOpened(t, "a stream without a head", z[8:])
	notOpened(t, "a compressed form, twice", wrapped(zlib.Pack(z)))
	notOpened(t, "a plain form's mark", append(slices.Clone(b[:4]), z[4:]...))
	notOpened(t, "a plain form that isn't compressed", wrapped(b))
	notOpened(t, "nothing", nil)
	notOpened(t, "nothing, compressed", wrapped(zlib.Pack(nil)))
	notOpened(t, "a head alone", wrapped(nil))
	for _, c := range []struct {
		name string
		at   int
		by   byte
	}{{"mark", 0, 1}, {"mark", 3, 1}, {"mark", 3, 255}, {"length", 7, 1}, {"length", 7, 255}, {"length", 4, 128}, {"zlib's head", 8, 8}, {"sum", len(z) - 1, 1}} {
		wrong := slices.Clone(z)
		wrong[c.at] += c.by
		notOpened(t, c.name, wrong)
	}
	refused(t, "nothing", nil)
	refused(t, "one byte", []byte{0x1C})
}

// P19.2, P19.4: what zlib's Pack would not have written isn't a compressed form, though it tells a plain one.
func TestOtherStreams(t *testing.T) {
	x := of(t, example, api.Pair{Key: 5, N: 1}, api.Pair{Key: 1900, N: 700})
	b := plainOf(x)
	want := wrapped(zlib.Pack(b))
	for level := flate.HuffmanOnly; level <= flate.BestCompression; level++ {
		z := wrapped(foreign(b, level))
		if text, err := unwrapped(z); err != nil || !bytes.Equal(text, b) || bytes.Equal(z, want) {
			t.Fatalf("level %d: % x, %v", level, z, err)
		}
		notOpened(t, "another writer's", z)
	}
	s := adler.Sum(b)
	sum := []byte{byte(s >> 24), byte(s >> 16), byte(s >> 8), byte(s)}
	for name, z := range map[string][]byte{
		"a stored block":      slices.Concat([]byte{0x78, 0x01}, deflate.Stored(b), sum),
		"another head":        slices.Concat([]byte{0x78, 0x9C}, deflate.Best(b), sum),
		"a lesser size":       slices.Concat([]byte{0x68, 0x05}, deflate.Best(b), sum),
		"two blocks":          slices.Concat([]byte{0x78, 0x01, 0, 0, 0, 255, 255}, deflate.Best(b), sum),
		"bits behind the end": spareBits(t, zlib.Pack(b)),
	} {
		if text, e := zlib.Open(z, mostText); e != api.OK || !bytes.Equal(text, b) {
			t.Fatalf("%s: % x, %d", name, text, e)
		}
		notOpened(t, name, wrapped(z))
	}
}

// spareBits is a wrapped stream whose last byte's spare bits are turned.
func spareBits(t *testing.T, z []byte) []byte {
	t.Helper()
	z = slices.Clone(z)
	at := len(z) - 5
	if z[at]&128 != 0 {
		t.Fatalf("no spare bit: % x", z)
	}
	z[at] |= 128
	return z
}

// P19.2: plain forms that are refused are so, too, when they are compressed.
func TestWrongTexts(t *testing.T) {
	for _, b := range [][]byte{row(), row(-1, 3), row(0, 0, 3), row(3, 0), row(-2048, 1), row(most, 1), {134}} {
		notOpened(t, "a wrong row", wrapped(zlib.Pack(formOf(example, b))))
	}
	notOpened(t, "one byte more", wrapped(zlib.Pack(append(formOf(example, row(1)), 0))))
}

// P19.2: a compressed form may have 2^20 bytes when it is opened, and no more; a plain one may.
func TestLimit(t *testing.T) {
	h := api.Hdr{Lowest: 1, Highest: 200000, Digits: 5} // 262144 cells
	for _, size := range []int{mostText - 1, mostText, mostText + 1, mostText + 70000} {
		x := of(t, h, filled(size-inHead)...)
		b, e := hdrwire.Write(x)
		if len(b) != size || e != api.OK || hdrwire.Size(x) != size {
			t.Fatalf("%d bytes, %d, not %d", len(b), e, size)
		}
		y, e := hdrwire.Read(b)
		if e != api.OK || !slices.Equal(y.Pairs(), x.Pairs()) {
			t.Fatalf("Read of %d bytes: %s, %d", size, named(y), e)
		}
		z, e := hdrwire.Pack(x)
		if e != api.OK || !bytes.Equal(z[:8], wrapped(z[8:])[:8]) {
			t.Fatalf("Pack of %d bytes: % x, %d", size, cut(z), e)
		}
		if size > mostText {
			notOpened(t, "more than may be", z)
			continue
		}
		y, e = hdrwire.Open(z)
		if e != api.OK || !slices.Equal(y.Pairs(), x.Pairs()) {
			t.Fatalf("Open of %d bytes: %s, %d", size, named(y), e)
		}
	}
}

// filled are pairs that rise without gaps, and have so many bytes: five each, the last ones fewer.
func filled(size int) []api.Pair {
	var l []api.Pair
	for size > 0 {
		many := min(size, 5)
		l = append(l, api.Pair{Key: len(l), N: 1 << (7*many - 2)})
		size -= many
	}
	return l
}

// P19.2: any bytes behind a right head.
func TestAnyRows(t *testing.T) {
	dice := rand.New(rand.NewSource(192))
	met := 0
	for range 60000 {
		var l [][]byte
		for range dice.Intn(6) {
			switch dice.Intn(8) {
			case 0:
				l = append(l, row(0))
			case 1, 2:
				l = append(l, row(-dice.Int63n(int64(2)<<dice.Intn(6))))
			case 3:
				l = append(l, row(int64(dice.Uint64())>>dice.Intn(64)))
			case 4:
				some := make([]byte, dice.Intn(3))
				dice.Read(some)
				l = append(l, some)
			default:
				l = append(l, row(1+dice.Int63n(100)))
			}
		}
		h := api.Hdr{Lowest: 1, Highest: 2, Digits: 1} // 32 cells
		if holdRead(t, formOf(h, l...)) {
			met++
		}
	}
	if met < 3000 || met > 57000 {
		t.Errorf("%d were read", met)
	}
}

// P19.2, P19.4: forms some of whose bytes are others are refused, or they are another histogram's form.
func TestAnyBytes(t *testing.T) {
	dice := rand.New(rand.NewSource(193))
	met := 0
	for range 4000 {
		x := anyHist(t, dice)
		b, _ := hdrwire.Write(x)
		z, _ := hdrwire.Pack(x)
		for range 1 + dice.Intn(2) {
			b[dice.Intn(len(b))] ^= 1 << dice.Intn(8)
		}
		if holdRead(t, b) {
			met++
			y, e := hdrwire.Open(wrapped(zlib.Pack(b)))
			if c, _ := hdrwire.Write(y); e != api.OK || !bytes.Equal(b, c) {
				t.Fatalf("Open: %s, %d", named(y), e)
			}
		}
		z[dice.Intn(len(z))] ^= 1 << dice.Intn(8)
		notOpened(t, "a bit is turned", z)
	}
	if met < 100 {
		t.Errorf("%d were read", met)
	}
	for range 20000 {
		b := make([]byte, dice.Intn(60))
		dice.Read(b)
		copy(b, []byte{0x1C, 0x84, 0x93, 0x13 + byte(dice.Intn(2))})
		holdRead(t, b)
		notOpened(t, "any bytes", b)
	}
}

// P19.2: long rows of zeros, and a row of all cells of the greatest shape, are gone through within few moments.
func TestLong(t *testing.T) {
	great := api.Hdr{Lowest: 1, Highest: last, Digits: 5}
	all := cells(great)
	refused(t, "zeros one by one", formOf(great, make([]byte, all+1)))
	refused(t, "short runs", formOf(great, bytes.Repeat(row(-2), all)))
	if b := formOf(great, row(int64(1-all), 9)); !holdRead(t, b) {
		t.Error("the last cell of all")
	}
	b := formOf(great, bytes.Repeat([]byte{2}, 400000))
	if x, e := hdrwire.Read(b); e != api.OK || x.Total() != 400000 {
		t.Errorf("Read: %s, %d", named(x), e)
	}
}
