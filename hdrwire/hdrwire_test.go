package hdrwire_test

import (
	"bytes"
	"encoding/base64"
	"math"
	"math/rand"
	"slices"
	"testing"

	"theodolite/api"
	"theodolite/hdr"
	"theodolite/hdrwire"
	"theodolite/zlib"
)

// example is the shape of the chapter's examples: one bucket of 2048 cells.
var example = api.Hdr{Lowest: 1, Highest: 2000, Digits: 3}

// shapes are some of those that may be, with units and counts of buckets from the least to the greatest ones.
var shapes = []api.Hdr{
	example,
	{Lowest: 1, Highest: 2, Digits: 1},
	{Lowest: 1, Highest: 32, Digits: 1},
	{Lowest: 1, Highest: 2047, Digits: 3},
	{Lowest: 1, Highest: 2048, Digits: 3},
	{Lowest: 1, Highest: 3600000000, Digits: 3},
	{Lowest: 1, Highest: last, Digits: 2},
	{Lowest: 1, Highest: 100000, Digits: 5},
	{Lowest: 1000, Highest: 2000, Digits: 1},
	{Lowest: 1000, Highest: 1 << 40, Digits: 4},
	{Lowest: 1<<58 - 1, Highest: 1<<59 - 2, Digits: 1},
	{Lowest: 1 << 57, Highest: 1 << 62, Digits: 1},
	{Lowest: 1 << 51, Highest: last, Digits: 3},
}

// exampleHead is the chapter's head of so many bytes behind it, written out.
func exampleHead(behind byte) []byte {
	return []byte{
		0x1C, 0x84, 0x93, 0x13, 0, 0, 0, behind, 0, 0, 0, 0, 0, 0, 0, 3,
		0, 0, 0, 0, 0, 0, 0, 1, 0, 0, 0, 0, 0, 0, 0x07, 0xD0, 0x3F, 0xF0, 0, 0, 0, 0, 0, 0,
	}
}

// P19.1 to P19.3: the chapter's examples, byte by byte.
func TestExamples(t *testing.T) {
	x := made(t, example, false)
	b, e := hdrwire.Write(x)
	if want := append(exampleHead(1), 0); !bytes.Equal(b, want) || e != api.OK || hdrwire.Size(x) != 41 {
		t.Errorf("nothing counted: % x, %d, %d", b, e, hdrwire.Size(x))
	}
	record(t, x, 2, 3)
	b, e = hdrwire.Write(x)
	if want := append(exampleHead(2), 3, 6); !bytes.Equal(b, want) || e != api.OK || hdrwire.Size(x) != 42 {
		t.Errorf("Record(2, 3): % x, %d, %d", b, e, hdrwire.Size(x))
	}
	z, e := hdrwire.Pack(x)
	packed := zlib.Pack(b)
	if want := append([]byte{0x1C, 0x84, 0x93, 0x14, 0, 0, 0, byte(len(packed))}, packed...); !bytes.Equal(z, want) || e != api.OK {
		t.Errorf("Pack: % x, %d, not % x", z, e, want)
	}
	for _, tell := range []func() (*hdr.Hist, api.Errno){
		func() (*hdr.Hist, api.Errno) { return hdrwire.Read(b) },
		func() (*hdr.Hist, api.Errno) { return hdrwire.Open(z) },
	} {
		y, e := tell()
		if e != api.OK || y.Shape() != example || y.Grows() || !slices.Equal(y.Pairs(), []api.Pair{{Key: 2, N: 3}}) {
			t.Errorf("is read as %s, %d", named(y), e)
		}
	}
	if k, l := hdrwire.Kind(b), hdrwire.Kind(z); k != 1 || l != 2 {
		t.Errorf("Kind: %d, %d", k, l)
	}
}

// P19.1, P19.2: bytes that the published HdrHistogram wrote of the same values, and how it compressed them, which zlib's Pack would not.
func TestPublished(t *testing.T) {
	x := made(t, api.Hdr{Lowest: 1000, Highest: 3600000000, Digits: 2}, false)
	for v, n := range map[int64]uint64{0: 7, 1500: 2, 1600: 1, 2600: 64, 70000: 300, 3599999999: 1} {
		record(t, x, v, n)
	}
	want := []byte{
		0x1C, 0x84, 0x93, 0x13, 0, 0, 0, 0x0E, 0, 0, 0, 0, 0, 0, 0, 2,
		0, 0, 0, 0, 0, 0, 0x03, 0xE8, 0, 0, 0, 0, 0xD6, 0x93, 0xA4, 0, 0x3F, 0xF0, 0, 0, 0, 0, 0, 0,
		0x0E, 0, 4, 2, 0, 0x80, 1, 0x83, 2, 0xD8, 4, 0x99, 0x1F, 2,
	}
	if b, e := hdrwire.Write(x); !bytes.Equal(b, want) || e != api.OK {
		t.Errorf("Write: % x, %d", b, e)
	}
	y, e := hdrwire.Read(want)
	holdSame(t, x, y, e)
	packed, err := base64.StdEncoding.DecodeString("HISTFAAAADl42gTAsQ1AQBgG0Odz9TVaiVGsJmGDv9KbSYygNII3HzWhAwKML9x1WT+ga7ENe552LvkHAL6GCC4=")
	if err != nil {
		t.Fatal(err)
	}
	if text, err := unwrapped(packed); err != nil || !bytes.Equal(text, want) || hdrwire.Kind(packed) != 2 {
		t.Fatalf("% x, %v", text, err)
	}
	notOpened(t, "as it was compressed elsewhere", packed)
}

// P19.1, P19.3: no histogram has no form.
func TestNone(t *testing.T) {
	if b, e := hdrwire.Write(nil); len(b) != 0 || e != api.ErrArg {
		t.Errorf("Write(nil): % x, %d", b, e)
	}
	if b, e := hdrwire.Pack(nil); len(b) != 0 || e != api.ErrArg {
		t.Errorf("Pack(nil): % x, %d", b, e)
	}
	if n := hdrwire.Size(nil); n != 0 {
		t.Errorf("Size(nil): %d", n)
	}
}

// P19.1: what stands behind the head, of cells one by one: single zeros, runs of them, counts of each length.
func TestBehind(t *testing.T) {
	for _, c := range []struct {
		l    []api.Pair
		want []byte
	}{
		{nil, []byte{0}},
		{[]api.Pair{{Key: 0, N: 1}}, []byte{2}},
		{[]api.Pair{{Key: 1, N: 1}}, []byte{0, 2}},
		{[]api.Pair{{Key: 2, N: 1}}, []byte{3, 2}},
		{[]api.Pair{{Key: 3, N: 1}}, []byte{5, 2}},
		{[]api.Pair{{Key: 64, N: 1}}, []byte{127, 2}},
		{[]api.Pair{{Key: 65, N: 1}}, []byte{129, 1, 2}},
		{[]api.Pair{{Key: 2047, N: 1}}, []byte{253, 31, 2}},
		{[]api.Pair{{Key: 0, N: 1}, {Key: 1, N: 2}}, []byte{2, 4}},
		{[]api.Pair{{Key: 0, N: 1}, {Key: 2, N: 2}}, []byte{2, 0, 4}},
		{[]api.Pair{{Key: 0, N: 1}, {Key: 3, N: 2}, {Key: 5, N: 3}}, []byte{2, 3, 4, 0, 6}},
		{[]api.Pair{{Key: 1, N: 63}, {Key: 4, N: 64}}, []byte{0, 126, 3, 128, 1}},
		{[]api.Pair{{Key: 0, N: 1<<55 - 1}}, []byte{254, 255, 255, 255, 255, 255, 255, 127}},
		{[]api.Pair{{Key: 0, N: 1 << 55}}, []byte{128, 128, 128, 128, 128, 128, 128, 128, 1}},
		{[]api.Pair{{Key: 0, N: most - 1}}, []byte{254, 255, 255, 255, 255, 255, 255, 255, 127}},
		{[]api.Pair{{Key: 0, N: most}}, []byte{128, 128, 128, 128, 128, 128, 128, 128, 128}},
	} {
		x := of(t, example, c.l...)
		b, e := hdrwire.Write(x)
		if want := append(exampleHead(byte(len(c.want))), c.want...); !bytes.Equal(b, want) || e != api.OK {
			t.Errorf("%d: % x, %d, not % x", c.l, b, e, want)
		}
		holdForms(t, x)
	}
}

// P19.1, P19.4: rows of cells that are longer than a pattern of wire may be, all counted, or with zeros between.
func TestLongRows(t *testing.T) {
	for _, many := range []int{1, 62, 63, 64, 65, 66, 127, 128, 129, 1000, 2048} {
		for _, every := range []int{1, 2, 3} {
			var l []api.Pair
			for i := every - 1; i < many; i += every {
				l = append(l, api.Pair{Key: i, N: uint64(i + 1)})
			}
			holdForms(t, of(t, example, l...))
		}
	}
}

// P19.1, P19.3, P19.4: histograms of many shapes: empty ones, those with their first and last cells, those that have grown.
func TestShapes(t *testing.T) {
	for _, h := range shapes {
		for _, grows := range []bool{false, true} {
			x := made(t, h, grows)
			holdForms(t, x)
			record(t, x, h.Highest, 1)
			holdForms(t, x)
			record(t, x, 0, 5)
			record(t, x, h.Lowest, most-7)
			holdForms(t, x)
			if grows {
				record(t, x, last, 1)
				holdForms(t, x)
			}
		}
		x := of(t, h, api.Pair{Key: cells(h) - 1, N: 1})
		holdForms(t, x)
		if x.Reach() != h.Highest {
			t.Errorf("%d: Reach: %d", h, x.Reach())
		}
	}
}

// P19.1 to P19.4: any histograms.
func TestAnyHistograms(t *testing.T) {
	dice := rand.New(rand.NewSource(191))
	for range 1500 {
		holdForms(t, anyHist(t, dice))
	}
}

// P19.1, P19.2, P19.4: one that has grown tells how far it reaches, and is read as one that began so.
func TestGrown(t *testing.T) {
	x := made(t, example, true)
	record(t, x, 5000, 1)
	y, _ := hdrwire.Read(plainOf(x))
	if h := y.Shape(); h != (api.Hdr{Lowest: 1, Highest: 8191, Digits: 3}) || y.Buckets() != 3 || y.Grows() {
		t.Errorf("is read as %s", named(y))
	}
	if e := y.Record(8192, 1); e != api.ErrRange {
		t.Errorf("Record beyond its reach: %d", e)
	}
	began := made(t, api.Hdr{Lowest: 1, Highest: 8191, Digits: 3}, false)
	record(t, began, 5001, 1)
	holdBytes(t, x, began)
	empty := made(t, example, true)
	if e := x.Take(x); e != api.OK || empty.Take(x) != api.OK {
		t.Errorf("Take: %d", e)
	}
	record(t, began, 5000, 1)
	holdBytes(t, x, began)
	holdBytes(t, empty, began)
}

// P19.4: in what order values came, by which calls, and as which ones of their cells, makes no difference; another reach or another cell does.
func TestSameCells(t *testing.T) {
	h := api.Hdr{Lowest: 1, Highest: 100000, Digits: 2}
	values := []int64{0, 3, 3, 255, 256, 257, 1000, 50000, 50001, 99999}
	x, y, z := made(t, h, false), made(t, h, true), made(t, h, false)
	for i, v := range values {
		record(t, x, v, 2)
		low := values[len(values)-1-i]
		record(t, y, low, 1)
		record(t, y, low, 1)
		part := made(t, h, false)
		record(t, part, v, 1)
		if z.Take(part) != api.OK || z.Take(part) != api.OK {
			t.Fatal("Take")
		}
	}
	holdBytes(t, x, y)
	holdBytes(t, x, z)
	record(t, y, 256, 1)
	record(t, x, 257, 1) // the same cell
	holdBytes(t, x, y)
	record(t, z, 258, 1)
	wider := made(t, api.Hdr{Lowest: 1, Highest: 100001, Digits: 2}, false)
	for _, p := range x.Pairs() {
		v := of(t, h, p)
		low, _ := v.Least()
		record(t, wider, low, p.N)
	}
	if !slices.Equal(wider.Pairs(), x.Pairs()) {
		t.Fatal("the same cells")
	}
	b, _ := hdrwire.Write(x)
	for _, other := range []*hdr.Hist{z, wider} {
		if c, _ := hdrwire.Write(other); bytes.Equal(b, c) {
			t.Errorf("%s has the bytes of %s", named(other), named(x))
		}
	}
}

// P19.3: which four bytes begin a form; what stands behind them makes no difference.
func TestKind(t *testing.T) {
	for _, c := range []struct {
		b    []byte
		want int
	}{
		{nil, 0}, {[]byte{}, 0}, {[]byte{0x1C}, 0}, {[]byte{0x1C, 0x84, 0x93}, 0},
		{[]byte{0x1C, 0x84, 0x93, 0x13}, 1}, {[]byte{0x1C, 0x84, 0x93, 0x14}, 2},
		{[]byte{0x1C, 0x84, 0x93, 0x13, 0x14}, 1}, {[]byte{0x1C, 0x84, 0x93, 0x14, 0x13}, 2},
		{[]byte{0x1C, 0x84, 0x93, 0x12}, 0}, {[]byte{0x1C, 0x84, 0x93, 0x15}, 0}, {[]byte{0x1C, 0x84, 0x93, 0x03}, 0},
		{[]byte{0x13, 0x93, 0x84, 0x1C}, 0}, {[]byte{0x14, 0x93, 0x84, 0x1C}, 0}, {[]byte{0, 0x1C, 0x84, 0x93, 0x13}, 0},
		{[]byte{0x9C, 0x84, 0x93, 0x13}, 0}, {[]byte{0x1C, 0x04, 0x93, 0x13}, 0}, {[]byte{0x1C, 0x84, 0x13, 0x14}, 0},
		{bytes.Repeat([]byte{0}, 40), 0}, {bytes.Repeat([]byte{255}, 40), 0},
	} {
		if k := hdrwire.Kind(c.b); k != c.want {
			t.Errorf("Kind(% x): %d, not %d", c.b, k, c.want)
		}
	}
	for bit := range 32 {
		b := []byte{0x1C, 0x84, 0x93, 0x13}
		b[bit/8] ^= 1 << (bit % 8)
		if k := hdrwire.Kind(b); k != 0 {
			t.Errorf("Kind(% x): %d", b, k)
		}
	}
}

// The rules that hold everywhere: what is handed in is neither changed nor kept, an answer is new memory, the same is answered again.
func TestArguments(t *testing.T) {
	x := made(t, example, true)
	record(t, x, 7, 300)
	record(t, x, 5000, 1)
	for _, c := range []struct {
		write func(x *hdr.Hist) ([]byte, api.Errno)
		read  func(b []byte) (*hdr.Hist, api.Errno)
	}{{hdrwire.Write, hdrwire.Read}, {hdrwire.Pack, hdrwire.Open}} {
		first, _ := c.write(x)
		second, _ := c.write(x)
		was := slices.Clone(first)
		for i := range second {
			second[i] = 99
		}
		second = append(second, 99)
		if third, _ := c.write(x); !bytes.Equal(first, was) || !bytes.Equal(third, was) {
			t.Errorf("an answer is another one's: % x, % x, % x", first, second, third)
		}
		room := append(slices.Clone(was), 9, 9, 9, 9)
		b := room[:len(was)]
		y, e := c.read(b)
		again, f := c.read(b)
		if e != api.OK || f != api.OK || !bytes.Equal(room, append(slices.Clone(was), 9, 9, 9, 9)) {
			t.Fatalf("%d, %d: % x", e, f, room)
		}
		clear(room)
		record(t, again, 7, 1)
		if got, _ := c.write(y); !bytes.Equal(got, was) {
			t.Errorf("what was handed in, or another answer, is kept: % x", got)
		}
		if len(x.Pairs()) != 2 || x.Count(7) != 300 || x.Reach() != 8191 {
			t.Errorf("what was written is changed: %s", named(x))
		}
	}
}

// P19.2: what was read goes on as what it is: it counts, refuses what is beyond its reach, and takes its like.
func TestGoesOn(t *testing.T) {
	x := of(t, example, api.Pair{Key: 2047, N: most - 3})
	y, e := hdrwire.Read(plainOf(x))
	if e != api.OK || y.Record(2048, 1) != api.ErrRange || y.Record(1, 4) != api.ErrCap || y.Record(1, 3) != api.OK {
		t.Fatalf("%s: %d", named(y), e)
	}
	holdForms(t, y)
	z, _ := hdrwire.Read(plainOf(made(t, example, true)))
	if z.Take(y) != api.OK || z.Total() != most {
		t.Errorf("Take: %s", named(z))
	}
	if v, e := z.At(0, 1); v != 1 || e != api.OK {
		t.Errorf("At(0, 1): %d, %d", v, e)
	}
	if v, e := z.At(1, 1); v != 2047 || e != api.OK {
		t.Errorf("At(1, 1): %d, %d", v, e)
	}
	if (z.Shape() != api.Hdr{Lowest: 1, Highest: 2000, Digits: 3}) || z.Reach() >= math.MaxInt64 {
		t.Errorf("%s", named(z))
	}
}
