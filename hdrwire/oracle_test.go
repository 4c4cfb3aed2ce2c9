package hdrwire_test

import (
	"bytes"
	"encoding/binary"
	"io"
	"math"
	"math/big"
	"math/rand"
	"slices"
	"testing"

	stock "compress/zlib"

	"theodolite/api"
	"theodolite/hdr"
	"theodolite/hdrwire"
)

const (
	last     = math.MaxInt64
	most     = 1 << 62 // the greatest total
	mostText = 1 << 20 // bytes of a compressed form when it is opened
	inHead   = 40
)

// head is what a plain form begins with, all of its numbers.
type head struct {
	mark, behind, zero, digits uint32
	lowest, reach, ratio       uint64
}

// headOf is a right head of so many bytes behind it.
func headOf(h api.Hdr, behind int) head {
	return head{0x1C849313, uint32(behind), 0, uint32(h.Digits), uint64(h.Lowest), uint64(h.Highest), 0x3FF0000000000000}
}

func (h head) bytes() []byte {
	var b []byte
	for _, n := range []uint32{h.mark, h.behind, h.zero, h.digits} {
		b = binary.BigEndian.AppendUint32(b, n)
	}
	for _, n := range []uint64{h.lowest, h.reach, h.ratio} {
		b = binary.BigEndian.AppendUint64(b, n)
	}
	return b
}

// formOf is a right head of a shape, and these bytes.
func formOf(h api.Hdr, behind ...[]byte) []byte {
	b := slices.Concat(behind...)
	return append(headOf(h, len(b)).bytes(), b...)
}

// wrapped is a compressed form's head, and these bytes.
func wrapped(z []byte) []byte {
	b := binary.BigEndian.AppendUint32([]byte{0x1C, 0x84, 0x93, 0x14}, uint32(len(z)))
	return append(b, z...)
}

// number is a number as the letter n has it, by chapter 1's table.
func number(n int64) []byte {
	twice := new(big.Int).Lsh(big.NewInt(n), 1)
	if n < 0 {
		twice.Neg(twice).Sub(twice, big.NewInt(1))
	}
	left := twice.Uint64()
	var b []byte
	for len(b) < 8 && left >= 128 {
		b = append(b, byte(left%128)+128)
		left /= 128
	}
	return append(b, byte(left))
}

// row is numbers one behind the other, as the letter n has them.
func row(l ...int64) []byte {
	var b []byte
	for _, n := range l {
		b = append(b, number(n)...)
	}
	return b
}

// rowOf is what stands behind the head, cell by cell: of these counts, the last one of which was counted.
func rowOf(counts []uint64) []byte {
	if len(counts) == 0 {
		return row(0)
	}
	var b []byte
	for run, i := 0, 0; i < len(counts); i++ {
		if counts[i] == 0 {
			run++
			continue
		}
		if run == 1 {
			b = append(b, row(0)...)
		}
		if run > 1 {
			b = append(b, row(int64(-run))...)
		}
		run, b = 0, append(b, row(int64(counts[i]))...)
	}
	return b
}

// plainOf is the plain form of what a histogram tells of itself, by the chapter's words.
func plainOf(x *hdr.Hist) []byte {
	var counts []uint64
	for _, p := range x.Pairs() {
		counts = append(counts, make([]uint64, p.Key+1-len(counts))...)
		counts[p.Key] = p.N
	}
	h := x.Shape()
	h.Highest = x.Reach()
	return formOf(h, rowOf(counts))
}

// unit is a shape's unit, powers of two being tried one by one.
func unit(h api.Hdr) int {
	u := 0
	for int64(2)<<u <= h.Lowest {
		u++
	}
	return u
}

// magnitude is a shape's magnitude.
func magnitude(h api.Hdr) int {
	m, apart := 0, int64(2)
	for range h.Digits {
		apart *= 10
	}
	for int64(1)<<m < apart {
		m++
	}
	return m
}

// cells is how many cells the histogram of a shape has at first; 0, if the shape may not be.
func cells(h api.Hdr) int {
	if h.Digits < 1 || h.Digits > 5 || h.Lowest < 1 || h.Lowest > last/2 || h.Highest < 2*h.Lowest {
		return 0
	}
	u, m := unit(h), magnitude(h)
	if u+m > 62 {
		return 0
	}
	buckets := 1
	for uint64(h.Highest) >= uint64(1)<<(u+m+buckets-1) {
		buckets++
	}
	return (buckets + 1) << (m - 1)
}

// read is what a plain form tells by the chapter's words, step by step; false, if there is no such histogram.
func read(b []byte) (api.Hdr, []api.Pair, bool) {
	if len(b) < inHead {
		return api.Hdr{}, nil, false
	}
	digits := binary.BigEndian.Uint32(b[12:])
	h := api.Hdr{Lowest: int64(binary.BigEndian.Uint64(b[16:])), Highest: int64(binary.BigEndian.Uint64(b[24:])), Digits: int(digits)}
	if digits > 5 || cells(h) == 0 || !bytes.Equal(b[:inHead], headOf(h, len(b)-inHead).bytes()) {
		return api.Hdr{}, nil, false
	}
	l, ok := counted(b[inHead:], cells(h))
	return h, l, ok
}

// counted are the cells that are counted by what stands behind a head.
func counted(b []byte, cells int) ([]api.Pair, bool) {
	if bytes.Equal(b, []byte{0}) {
		return nil, true
	}
	var l []api.Pair
	at, all, zeros := 0, uint64(0), false
	for len(b) > 0 {
		n, size := first(b)
		if size == 0 || n == -1 || n <= 0 && zeros {
			return nil, false
		}
		b, zeros = b[size:], n <= 0
		switch {
		case n < 0 && n < int64(at-cells):
			return nil, false
		case n < 0:
			at += int(-n)
			continue
		case n > 0:
			l = append(l, api.Pair{Key: at, N: uint64(n)})
			all += uint64(n)
		}
		if at++; at > cells || all > most {
			return nil, false
		}
	}
	return l, !zeros && len(l) > 0
}

// first is the number that b begins with by the letter n, and how many bytes it has: 0, if there is none.
func first(b []byte) (int64, int) {
	for size := 1; size <= min(len(b), 9); size++ {
		if size < 9 && b[size-1] >= 128 {
			continue
		}
		if size > 1 && b[size-1] == 0 {
			return 0, 0
		}
		n := new(big.Int)
		for i := size - 1; i >= 0; i-- {
			c := int64(b[i])
			if i < 8 {
				c %= 128
			}
			n.Lsh(n, 7).Add(n, big.NewInt(c))
		}
		if n.Bit(0) == 1 {
			n.Not(n)
		}
		return n.Rsh(n, 1).Int64(), size
	}
	return 0, 0
}

// unwrapped is what another reader makes of a compressed form.
func unwrapped(b []byte) ([]byte, error) {
	r, err := stock.NewReader(bytes.NewReader(b[8:]))
	if err != nil {
		return nil, err
	}
	return io.ReadAll(r)
}

// foreign is a text as another writer compresses it.
func foreign(text []byte, level int) []byte {
	var z bytes.Buffer
	w, err := stock.NewWriterLevel(&z, level)
	if err != nil {
		panic(err)
	}
	w.Write(text)
	w.Close()
	return z.Bytes()
}

// made is an empty histogram.
func made(t *testing.T, h api.Hdr, grows bool) *hdr.Hist {
	t.Helper()
	x, e := hdr.New(h, grows)
	if e != api.OK {
		t.Fatalf("New(%d, %t): %d", h, grows, e)
	}
	return x
}

// of is a histogram of a shape with these pairs.
func of(t *testing.T, h api.Hdr, l ...api.Pair) *hdr.Hist {
	t.Helper()
	x, e := hdr.Load(h, false, made(t, h, false).Buckets(), l)
	if e != api.OK {
		t.Fatalf("Load(%d, %d): %d", h, l, e)
	}
	return x
}

// record records v n times.
func record(t *testing.T, x *hdr.Hist, v int64, n uint64) {
	t.Helper()
	if e := x.Record(v, n); e != api.OK {
		t.Fatalf("Record(%d, %d): %d", v, n, e)
	}
}

// holdForms holds both forms of a histogram, and what they are read as, against the chapter's words.
func holdForms(t *testing.T, x *hdr.Hist) {
	t.Helper()
	want := plainOf(x)
	b, e := hdrwire.Write(x)
	if e != api.OK || !bytes.Equal(b, want) {
		t.Fatalf("%s: Write: % x, %d, not % x", named(x), cut(b), e, cut(want))
	}
	if n := hdrwire.Size(x); n != len(want) {
		t.Fatalf("%s: Size: %d, not %d", named(x), n, len(want))
	}
	y, e := hdrwire.Read(b)
	holdSame(t, x, y, e)
	z, e := hdrwire.Pack(x)
	if e != api.OK || len(z) < 8 || !bytes.Equal(z, wrapped(z[8:])) {
		t.Fatalf("%s: Pack: % x, %d", named(x), cut(z), e)
	}
	if text, err := unwrapped(z); err != nil || !bytes.Equal(text, want) {
		t.Fatalf("%s: Pack by another reader: % x, %v", named(x), cut(text), err)
	}
	if len(want) <= mostText {
		y, e = hdrwire.Open(z)
		holdSame(t, x, y, e)
	}
	if k, l := hdrwire.Kind(b), hdrwire.Kind(z); k != 1 || l != 2 {
		t.Fatalf("%s: Kind: %d, %d", named(x), k, l)
	}
}

// holdSame holds what a form of x was read as against x: it has x's cells, doesn't grow, and its forms are x's.
func holdSame(t *testing.T, x, y *hdr.Hist, e api.Errno) {
	t.Helper()
	if y == nil || e != api.OK {
		t.Fatalf("%s isn't read: %d", named(x), e)
	}
	h := x.Shape()
	h.Highest = x.Reach()
	if y.Shape() != h || y.Grows() || y.Reach() != h.Highest || y.Buckets() != x.Buckets() || y.Total() != x.Total() || !slices.Equal(y.Pairs(), x.Pairs()) {
		t.Fatalf("%s is read as %s", named(x), named(y))
	}
	holdBytes(t, x, y)
}

// holdBytes holds the forms of two histograms against each other: they are the same.
func holdBytes(t *testing.T, x, y *hdr.Hist) {
	t.Helper()
	b, e := hdrwire.Write(x)
	c, f := hdrwire.Write(y)
	if !bytes.Equal(b, c) || e != api.OK || f != api.OK {
		t.Fatalf("%s, %s: % x, %d; % x, %d", named(x), named(y), cut(b), e, cut(c), f)
	}
	b, e = hdrwire.Pack(x)
	c, f = hdrwire.Pack(y)
	if !bytes.Equal(b, c) || e != api.OK || f != api.OK {
		t.Fatalf("%s, %s, packed: % x, %d; % x, %d", named(x), named(y), cut(b), e, cut(c), f)
	}
}

// holdRead holds what is read of any bytes against the chapter's words, and tells whether there is something.
func holdRead(t *testing.T, b []byte) bool {
	t.Helper()
	h, l, ok := read(b)
	x, e := hdrwire.Read(b)
	if !ok {
		if x != nil || e != api.ErrBytes {
			t.Fatalf("Read(% x): %s, %d", cut(b), named(x), e)
		}
		return false
	}
	if x == nil || e != api.OK || x.Shape() != h || x.Grows() || x.Reach() != h.Highest || !slices.Equal(x.Pairs(), l) {
		t.Fatalf("Read(% x): %s, %d, not %d, %d", cut(b), named(x), e, h, l)
	}
	if c, e := hdrwire.Write(x); !bytes.Equal(c, b) || e != api.OK {
		t.Fatalf("Read(% x) is written as % x, %d", cut(b), cut(c), e)
	}
	return true
}

// refused asks that bytes are no plain form.
func refused(t *testing.T, name string, b []byte) {
	t.Helper()
	if x, e := hdrwire.Read(b); x != nil || e != api.ErrBytes {
		t.Errorf("%s: Read(% x): %s, %d", name, cut(b), named(x), e)
	}
	if holdRead(t, b) {
		t.Errorf("%s: % x may be read by the chapter's words", name, cut(b))
	}
}

// notOpened asks that bytes are no compressed form.
func notOpened(t *testing.T, name string, b []byte) {
	t.Helper()
	if x, e := hdrwire.Open(b); x != nil || e != api.ErrBytes {
		t.Errorf("%s: Open(% x): %s, %d", name, cut(b), named(x), e)
	}
}

// anyHist is a histogram of any shape, with any values, near each other or not.
func anyHist(t *testing.T, dice *rand.Rand) *hdr.Hist {
	t.Helper()
	h := anyShape(dice)
	x := made(t, h, dice.Intn(2) == 0)
	top := x.Reach()
	if x.Grows() && dice.Intn(2) == 0 {
		top = last
	}
	v := dice.Int63n(top)
	for range dice.Intn(30) {
		switch step := int64(1) << unit(h); dice.Intn(4) {
		case 0:
			v = int64(dice.Uint64()>>1) >> dice.Intn(63)
		case 1:
			v = top - dice.Int63n(100)
		default:
			v -= step * dice.Int63n(4)
		}
		record(t, x, min(max(v, 0), top), 1+uint64(dice.Int63n(1<<(1+dice.Intn(57)))))
	}
	return x
}

// anyShape is a shape that may be.
func anyShape(dice *rand.Rand) api.Hdr {
	h := api.Hdr{Digits: 1 + dice.Intn(3)}
	if dice.Intn(20) == 0 {
		h.Digits = 4 + dice.Intn(2)
	}
	bits := 63 - magnitude(h) // of the greatest Lowest
	h.Lowest = min(1+dice.Int63n(int64(1)<<dice.Intn(bits+1)), int64(1)<<bits-1)
	h.Highest = 2*h.Lowest + dice.Int63n(last-2*h.Lowest+1)>>dice.Intn(63)
	return h
}

// named is how a histogram is told of.
func named(x *hdr.Hist) string {
	if x == nil {
		return "none"
	}
	return string(slices.Concat(label("lowest", x.Shape().Lowest), label("highest", x.Shape().Highest), label("digits", int64(x.Shape().Digits)), label("buckets", int64(x.Buckets())), label("keys", int64(len(x.Pairs())))))
}

func label(name string, n int64) []byte { return []byte(name + " " + big.NewInt(n).String() + " ") }

// cut is as much of bytes as is told of where something fails.
func cut(b []byte) []byte { return b[:min(len(b), 80)] }
