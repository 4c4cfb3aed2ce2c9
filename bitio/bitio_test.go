package bitio_test

import (
	"bytes"
	"math"
	"math/rand"
	"slices"
	"testing"

	"theodolite/api"
	"theodolite/bitio"
)

// row is bits one by one, as the chapter's words have them.
type row []uint32

// group puts the bits of a number of c bits behind, the lowest one first.
func (l *row) group(n uint32, c int) {
	for k := range c {
		*l = append(*l, n>>k&1)
	}
}

// code puts the bits of a number of c bits behind, the highest one first.
func (l *row) code(n uint32, c int) {
	for k := c - 1; k >= 0; k-- {
		*l = append(*l, n>>k&1)
	}
}

// align puts zeros behind up to the next whole byte.
func (l *row) align() {
	for len(*l)%8 != 0 {
		*l = append(*l, 0)
	}
}

// text aligns and puts the bits of bytes behind.
func (l *row) text(b []byte) {
	l.align()
	for _, x := range b {
		l.group(uint32(x), 8)
	}
}

// bytes are those that the bits make.
func (l row) bytes() []byte {
	b := make([]byte, (len(l)+7)/8)
	for k, bit := range l {
		b[k/8] |= byte(bit << (k % 8))
	}
	return b
}

// number is that of the c bits from at on, the lowest one first.
func (l row) number(at, c int) uint32 {
	var n uint32
	for k := range c {
		n |= l[at+k] << k
	}
	return n
}

// bitsOf are the bits of bytes.
func bitsOf(b []byte) row {
	var l row
	l.text(b)
	return l
}

// turned has the lowest c bits of n in the other order.
func turned(n uint32, c int) uint32 {
	var l row
	l.code(n, c)
	return l.number(0, c)
}

// same holds a writer against the bits that it was to write.
func same(t *testing.T, w *bitio.Writer, l row) {
	t.Helper()
	if w.Len() != len(l) || !bytes.Equal(w.Bytes(), l.bytes()) {
		t.Fatalf("%d bits: % x, not %d: % x", w.Len(), w.Bytes(), len(l), l.bytes())
	}
}

// edges are numbers of c bits: the least, the greatest, those of one bit, any.
func edges(dice *rand.Rand, c int) []uint32 {
	full := uint32(1)<<c - 1
	l := []uint32{0, full, full / 3, full / 3 * 2, dice.Uint32() & full, dice.Uint32() & full}
	for k := range c {
		l = append(l, 1<<k, full-1<<k)
	}
	return l
}

// counts are such as no number has bits.
var counts = []int{-1, 33, 34, 64, 256, -32, math.MinInt, math.MaxInt, 1 << 32, 1<<32 + 8}

// P4.1: the chapter's example, and what few bits make.
func TestFewBits(t *testing.T) {
	var w bitio.Writer
	same(t, &w, nil)
	if w.Group(5, 3) != api.OK || w.Code(1, 3) != api.OK || w.Group(1, 1) != api.OK {
		t.Error("an error of bits that may be")
	}
	same(t, &w, row{1, 0, 1, 0, 0, 1, 1})
	if b := w.Bytes(); !bytes.Equal(b, []byte{101}) {
		t.Errorf("% x, not 65", b)
	}
	w = bitio.Writer{}
	w.Code(0b110, 3)
	w.Group(0b110, 3)
	w.Code(0b11110000111, 11)
	if b := w.Bytes(); !bytes.Equal(b, []byte{0b11_110_011, 0b11000011, 0b1}) {
		t.Errorf("%b", b)
	}
}

// P4.1: a group's lowest bit comes first, a code's highest, at any place in a byte, of any count.
func TestGroupAndCode(t *testing.T) {
	dice := rand.New(rand.NewSource(1))
	for c := range 33 {
		for ahead := range 9 {
			for _, n := range edges(dice, c) {
				var w bitio.Writer
				var l row
				first := dice.Uint32() & (1<<ahead - 1)
				w.Group(first, ahead)
				l.group(first, ahead)
				if e := w.Group(n, c); e != api.OK {
					t.Fatalf("Group(%d, %d): %d", n, c, e)
				}
				l.group(n, c)
				same(t, &w, l)
				if e := w.Code(n, c); e != api.OK {
					t.Fatalf("Code(%d, %d): %d", n, c, e)
				}
				l.code(n, c)
				same(t, &w, l)
			}
		}
	}
}

// P4.1: what may not be is refused, and nothing is written.
func TestWriterRefuses(t *testing.T) {
	for c := range 33 {
		for _, n := range []uint32{1 << c, 1<<c + 1, 1 << c << 1, math.MaxUint32, math.MaxUint32 - 1<<c} {
			var w bitio.Writer
			w.Group(1, 2)
			if n>>c == 0 { // of 32 bits every number may be
				continue
			}
			if e := w.Group(n, c); e != api.ErrRange {
				t.Errorf("Group(%d, %d): %d", n, c, e)
			}
			if e := w.Code(n, c); e != api.ErrRange {
				t.Errorf("Code(%d, %d): %d", n, c, e)
			}
			same(t, &w, row{1, 0})
		}
	}
	for _, c := range counts {
		for _, n := range []uint32{0, 1, 255, math.MaxUint32} {
			var w bitio.Writer
			w.Code(1, 3)
			if e := w.Group(n, c); e != api.ErrRange {
				t.Errorf("Group(%d, %d): %d", n, c, e)
			}
			if e := w.Code(n, c); e != api.ErrRange {
				t.Errorf("Code(%d, %d): %d", n, c, e)
			}
			same(t, &w, row{0, 0, 1})
		}
	}
}

// P4.1: zeros up to the next whole byte, and none, if one is reached.
func TestWriterAligns(t *testing.T) {
	for ahead := range 33 {
		var w bitio.Writer
		var l row
		full := uint32(uint64(1)<<ahead - 1)
		w.Group(full, ahead)
		l.group(full, ahead)
		l.align()
		for range 2 {
			w.Align()
			same(t, &w, l)
		}
		w.Group(1, 1)
		l.group(1, 1)
		same(t, &w, l)
	}
}

// P4.1: a text stands behind zeros up to a whole byte; of no bytes it aligns.
func TestWriterText(t *testing.T) {
	for ahead := range 17 {
		for _, b := range [][]byte{nil, {}, {255}, {0}, {1, 2, 128}} {
			var w bitio.Writer
			var l row
			full := uint32(1)<<ahead - 1
			w.Code(full, ahead)
			l.code(full, ahead)
			w.Text(b)
			l.text(b)
			same(t, &w, l)
			w.Code(1, 3)
			l.code(1, 3)
			same(t, &w, l)
			w.Text(b)
			l.text(b)
			same(t, &w, l)
		}
	}
}

// P4.1: whatever was written, one behind the other.
func TestWriter(t *testing.T) {
	dice := rand.New(rand.NewSource(2))
	for range 300 {
		var w bitio.Writer
		var l row
		for range dice.Intn(60) {
			c := dice.Intn(33)
			n := uint32(uint64(dice.Uint32()) & (1<<c - 1))
			switch dice.Intn(8) {
			case 0:
				w.Align()
				l.align()
			case 1:
				b := make([]byte, dice.Intn(5))
				dice.Read(b)
				w.Text(b)
				l.text(b)
			case 2, 3, 4:
				w.Group(n, c)
				l.group(n, c)
			default:
				w.Code(n, c)
				l.code(n, c)
			}
			same(t, &w, l)
		}
	}
}

// P4.2: the chapter's example.
func TestExample(t *testing.T) {
	r := bitio.New([]byte{101})
	if n, e := r.Group(3); n != 5 || e != api.OK {
		t.Errorf("%d, %d", n, e)
	}
	if n, e := r.Group(3); n != 4 || e != api.OK {
		t.Errorf("%d, %d", n, e)
	}
	if n, e := r.Bit(); n != 1 || e != api.OK {
		t.Errorf("%d, %d", n, e)
	}
	if r.Left() != 1 || r.At() != 7 {
		t.Errorf("at %d, %d left", r.At(), r.Left())
	}
}

// P4.2: groups of any count from any place on; with fewer bits than that, nothing is read.
func TestReaderGroup(t *testing.T) {
	dice := rand.New(rand.NewSource(3))
	b := make([]byte, 7)
	dice.Read(b)
	l := bitsOf(b)
	for at := range len(l) + 1 {
		for c := range 33 {
			r := bitio.New(b)
			for range at {
				r.Bit()
			}
			n, e := r.Group(c)
			if at+c <= len(l) {
				if n != l.number(at, c) || e != api.OK || r.At() != at+c || r.Left() != len(l)-at-c {
					t.Fatalf("Group(%d) at %d: %d, %d, not %d; at %d, %d left", c, at, n, e, l.number(at, c), r.At(), r.Left())
				}
			} else if n != 0 || e != api.ErrEnd || r.At() != at || r.Left() != len(l)-at {
				t.Fatalf("Group(%d) at %d, where bits end: %d, %d; at %d, %d left", c, at, n, e, r.At(), r.Left())
			}
		}
	}
}

// P4.2: no such count is ErrRange, even where bits end; nothing is read.
func TestReaderRefuses(t *testing.T) {
	for _, c := range counts {
		for _, b := range [][]byte{nil, {255}, {255, 255, 255, 255, 255, 255, 255, 255, 255}} {
			r := bitio.New(b)
			if n, e := r.Group(c); n != 0 || e != api.ErrRange || r.At() != 0 || r.Left() != 8*len(b) {
				t.Errorf("Group(%d) of %d bytes: %d, %d; at %d, %d left", c, len(b), n, e, r.At(), r.Left())
			}
		}
	}
}

// P4.2: bits one by one, till none is left.
func TestBit(t *testing.T) {
	b := []byte{1, 128, 0, 255, 90}
	r := bitio.New(b)
	for k, bit := range bitsOf(b) {
		if n, e := r.Bit(); n != bit || e != api.OK || r.At() != k+1 {
			t.Errorf("bit %d: %d, %d; at %d", k, n, e, r.At())
		}
	}
	for range 2 {
		if n, e := r.Bit(); n != 0 || e != api.ErrEnd || r.At() != 40 || r.Left() != 0 {
			t.Errorf("behind all bits: %d, %d; at %d, %d left", n, e, r.At(), r.Left())
		}
	}
	if n, e := r.Group(0); n != 0 || e != api.OK {
		t.Errorf("no bits behind all: %d, %d", n, e)
	}
}

// P4.2: the next whole byte, or none further, if one is reached.
func TestReaderAligns(t *testing.T) {
	for at := range 25 {
		r := bitio.New([]byte{0, 255, 170})
		r.Group(at)
		want := (at + 7) / 8 * 8
		for range 2 {
			r.Align()
			if r.At() != want || r.Left() != 24-want {
				t.Errorf("from %d on: at %d, %d left", at, r.At(), r.Left())
			}
		}
	}
}

// P4.2: a text is read from the next whole byte on; where there are fewer bytes, or the count is below 0, it is aligned all the same.
func TestReaderText(t *testing.T) {
	b := []byte{9, 8, 7, 6}
	for at := range 33 {
		from := (at + 7) / 8
		for _, n := range []int{0, 1, 2, 3, 4, 5, 6, 33, 1 << 61, 1<<61 + 1, 1 << 62, math.MaxInt, -1, -2, math.MinInt, -1 << 61} {
			r := bitio.New(b)
			r.Group(at)
			text, e := r.Text(n)
			if n >= 0 && n <= len(b)-from {
				if !bytes.Equal(text, b[from:from+n]) || e != api.OK || r.At() != 8*(from+n) || r.Left() != 8*(len(b)-from-n) {
					t.Errorf("Text(%d) at %d: % x, %d; at %d, %d left", n, at, text, e, r.At(), r.Left())
				}
			} else if len(text) != 0 || e != api.ErrEnd || r.At() != 8*from || r.Left() != 8*(len(b)-from) {
				t.Errorf("Text(%d) at %d, where bytes end: % x, %d; at %d, %d left", n, at, text, e, r.At(), r.Left())
			}
		}
	}
}

// P4.2: a reader that was refused goes on from where it stands.
func TestReaderGoesOn(t *testing.T) {
	r := bitio.New([]byte{0xAB, 0xCD})
	r.Group(4)
	r.Group(13)
	r.Group(-1)
	if n, e := r.Group(4); n != 0xA || e != api.OK {
		t.Errorf("%x, %d", n, e)
	}
	r.Bit()
	if _, e := r.Text(-1); e != api.ErrEnd || r.Left() != 0 {
		t.Errorf("%d, %d left", e, r.Left())
	}
	if text, e := r.Text(0); len(text) != 0 || e != api.OK {
		t.Errorf("% x, %d", text, e)
	}
}

// P4.3: the lowest bits in the other order; what is above them makes no difference.
func TestTurn(t *testing.T) {
	dice := rand.New(rand.NewSource(4))
	for c := range 33 {
		for _, n := range edges(dice, c) {
			want := turned(n, c)
			for _, high := range []uint32{0, math.MaxUint32, dice.Uint32()} {
				n := n | uint32(uint64(high)>>c<<c)
				if got := bitio.Turn(n, c); got != want {
					t.Fatalf("Turn(%x, %d): %x, not %x", n, c, got, want)
				}
			}
			if got := bitio.Turn(want, c); got != n {
				t.Fatalf("Turn(%x, %d): %x, not %x again", want, c, got, n)
			}
		}
	}
	for _, c := range counts {
		if got := bitio.Turn(math.MaxUint32, c); got != 0 {
			t.Errorf("Turn of %d bits: %x", c, got)
		}
	}
	if got := bitio.Turn(1, 3); got != 4 {
		t.Errorf("Turn(1, 3): %d", got)
	}
}

// part is what was written: a group, a code or a text.
type part struct {
	kind, c int
	n       uint32
	text    []byte
}

// write writes parts.
func write(w *bitio.Writer, parts []part) {
	for _, p := range parts {
		switch p.kind {
		case 0:
			w.Group(p.n, p.c)
		case 1:
			w.Code(p.n, p.c)
		default:
			w.Text(p.text)
		}
	}
}

// P4.4: what was written is read, codes turned; bytes are as few as hold the bits.
func TestWrittenIsRead(t *testing.T) {
	dice := rand.New(rand.NewSource(5))
	for range 500 {
		parts := make([]part, dice.Intn(40))
		for k := range parts {
			c := dice.Intn(33)
			parts[k] = part{kind: dice.Intn(3), c: c, n: uint32(uint64(dice.Uint32()) & (1<<c - 1)), text: make([]byte, dice.Intn(4))}
			dice.Read(parts[k].text)
		}
		var w bitio.Writer
		write(&w, parts)
		b := w.Bytes()
		if len(b) != (w.Len()+7)/8 {
			t.Fatalf("%d bytes of %d bits", len(b), w.Len())
		}
		r := bitio.New(b)
		for _, p := range parts {
			if p.kind == 2 {
				if text, e := r.Text(len(p.text)); !bytes.Equal(text, p.text) || e != api.OK {
					t.Fatalf("% x, %d, not % x", text, e, p.text)
				}
				continue
			}
			n, e := r.Group(p.c)
			if p.kind == 1 {
				n = bitio.Turn(n, p.c)
			}
			if n != p.n || e != api.OK {
				t.Fatalf("%d bits: %x, %d, not %x", p.c, n, e, p.n)
			}
		}
		if r.At() != w.Len() || r.Left() >= 8 {
			t.Fatalf("at %d of %d, %d left", r.At(), w.Len(), r.Left())
		}
		if n, e := r.Group(r.Left()); n != 0 || e != api.OK {
			t.Fatalf("what fills the last byte up: %x, %d", n, e)
		}
	}
}

// The rules that hold everywhere: what is handed in is neither changed nor kept, an answer is new memory; zero values may be used; nil is empty.
func TestArguments(t *testing.T) {
	room := []byte{1, 2, 3, 4, 5, 6, 7, 8}
	was := slices.Clone(room)
	var w bitio.Writer
	w.Text(room[:4])
	w.Group(7, 3)
	r := bitio.New(room[:4])
	text, _ := r.Text(2)
	text = append(text, 99)
	first := w.Bytes()
	if !bytes.Equal(room, was) {
		t.Fatal("what was handed in is changed")
	}
	for k := range room {
		room[k] = 255
	}
	text[0] = 255
	again, _ := r.Text(2)
	if !bytes.Equal(again, []byte{3, 4}) || !bytes.Equal(w.Bytes(), []byte{1, 2, 3, 4, 7}) {
		t.Errorf("what was handed in is kept: % x, % x", again, w.Bytes())
	}
	again[0] = 9
	first[4] = 255
	first = append(first, 1)
	w.Group(0, 8)
	if !bytes.Equal(w.Bytes(), []byte{1, 2, 3, 4, 7, 0}) || len(text) != 3 || len(first) != 6 {
		t.Errorf("an answer is kept: % x", w.Bytes())
	}
	var zero bitio.Reader
	for _, r := range []*bitio.Reader{&zero, bitio.New(nil), bitio.New([]byte{})} {
		if _, e := r.Bit(); e != api.ErrEnd || r.At() != 0 || r.Left() != 0 {
			t.Errorf("a reader of nothing: %d; at %d, %d left", e, r.At(), r.Left())
		}
	}
	w = bitio.Writer{}
	w.Align()
	w.Text(nil)
	if w.Len() != 0 || len(w.Bytes()) != 0 {
		t.Errorf("a writer of nothing: %d, % x", w.Len(), w.Bytes())
	}
}
