package huff_test

import (
	"bytes"
	"compress/flate"
	"fmt"
	"io"
	"math"
	"math/rand"
	"slices"
	"strings"
	"testing"

	"theodolite/api"
	"theodolite/bitio"
	"theodolite/huff"
)

// codes are those of lengths, written out in zeros and ones, found as the chapter's words have them; none is "".
func codes(lengths []byte) []string {
	out := make([]string, len(lengths))
	code, long, begun := uint64(0), 0, false
	for length := 1; length <= 15; length++ {
		for symbol, l := range lengths {
			if int(l) != length {
				continue
			}
			if begun {
				code++
			}
			code, long, begun = code<<(length-long), length, true
			out[symbol] = fmt.Sprintf("%0*b", length, code)
		}
	}
	return out
}

// takes is how much of all lengths take.
func takes(lengths []byte) int {
	n := 0
	for _, l := range lengths {
		if l > 0 {
			n += 1 << (15 - l)
		}
	}
	return n
}

// without are the lengths that aren't 0.
func without(lengths []byte) []byte {
	return slices.DeleteFunc(slices.Clone(lengths), func(l byte) bool { return l == 0 })
}

// may tells whether there is a set of these lengths, and whether it is full.
func may(lengths []byte) (bool, bool) {
	l, full := without(lengths), takes(lengths) == 1<<15
	return full || len(l) == 0 || len(l) == 1 && l[0] == 1, full
}

// number is what zeros and ones say.
func number(code string) uint32 {
	var n uint32
	for _, c := range code {
		n = 2*n + uint32(c-'0')
	}
	return n
}

// reader reads zeros and ones; zeros fill its last byte up.
func reader(row string) *bitio.Reader {
	var w bitio.Writer
	for _, c := range row {
		w.Group(uint32(c-'0'), 1)
	}
	return bitio.New(w.Bytes())
}

// row is what a writer has, in zeros and ones.
func row(w *bitio.Writer) string {
	var out strings.Builder
	b := w.Bytes()
	for k := range w.Len() {
		out.WriteByte('0' + b[k/8]>>(k%8)&1)
	}
	return out.String()
}

// made is the set of lengths that there must be one of.
func made(t *testing.T, lengths []byte) *huff.Set {
	t.Helper()
	s, e := huff.Make(lengths)
	if s == nil || e != api.OK {
		t.Fatalf("Make(%d): %d", lengths, e)
	}
	return s
}

// full are lengths of a full set of about so many symbols, with some that have none, in any order.
func full(dice *rand.Rand, many int) []byte {
	l := []byte{1, 1}
	for len(l) < many {
		k := dice.Intn(len(l))
		if dice.Intn(3) == 0 {
			k = len(l) - 1
		}
		if l[k] < 15 {
			l[k]++
			l = append(l, l[k])
		}
	}
	for len(l) < 320 && dice.Intn(4) > 0 {
		l = append(l, 0)
	}
	dice.Shuffle(len(l), func(i, k int) { l[i], l[k] = l[k], l[i] })
	return l
}

// some are lengths of which there are sets, of all kinds.
func some() [][]byte {
	dice := rand.New(rand.NewSource(1))
	ladder := []byte{15}
	for l := 15; l > 0; l-- {
		ladder = append(ladder, byte(l))
	}
	out := [][]byte{
		nil, {}, {0}, make([]byte, 320), {1}, {0, 1}, {1, 0, 0}, append(make([]byte, 319), 1), {1, 1}, {0, 1, 0, 1}, {2, 1, 3, 3},
		{2, 2, 2, 2}, bytes.Repeat([]byte{8}, 256), ladder, append(bytes.Repeat([]byte{9}, 128), bytes.Repeat([]byte{8}, 192)...), huff.Fixed(), huff.Spans(),
	}
	for many := range 319 {
		out = append(out, full(dice, many+2))
	}
	return out
}

// P5.1: each set of few short lengths is made, if it may be, and tells whether it is full.
func TestMakeFew(t *testing.T) {
	lengths := []byte{0, 1, 2, 3, 4, 14, 15}
	for n := range 7 {
		at := make([]int, n)
		for range int(math.Pow(7, float64(n))) {
			l := make([]byte, n)
			for k, i := range at {
				l[k] = lengths[i]
			}
			can, full := may(l)
			s, e := huff.Make(l)
			if can && (e != api.OK || s == nil || s.Full() != full) || !can && (e != api.ErrCode || s != nil) {
				t.Fatalf("Make(%d): %d", l, e)
			}
			for k := range at {
				if at[k]++; at[k] < 7 {
					break
				}
				at[k] = 0
			}
		}
	}
}

// P5.1: sets of all kinds; one code less, one more, or one of another length is no set.
func TestMake(t *testing.T) {
	for _, l := range some() {
		_, full := may(l)
		if s := made(t, l); s.Full() != full {
			t.Errorf("of %d: %t", l, s.Full())
		}
		for k := range l {
			was := l[k]
			for _, l[k] = range []byte{0, 1, 2, 15, was + 1} {
				can, full := may(l)
				if l[k] == 16 {
					continue
				}
				s, e := huff.Make(l)
				if can && (e != api.OK || s.Full() != full) || !can && (e != api.ErrCode || s != nil) {
					t.Fatalf("Make(%d): %d", l, e)
				}
			}
			l[k] = was
		}
	}
}

// P5.1: more than 320 symbols, or a length above 15, are refused, whatever else there is.
func TestMakeRefuses(t *testing.T) {
	for _, l := range [][]byte{
		make([]byte, 321), append(make([]byte, 320), 1), append(bytes.Repeat([]byte{9}, 128), bytes.Repeat([]byte{8}, 193)...), make([]byte, 1<<16),
		{16}, {1, 1, 16}, {16, 1, 1}, {1, 1, 255}, {17, 1}, {1, 1, 1, 128}, append(make([]byte, 319), 16), {1, 16}, {16, 16}, append(make([]byte, 400), 200),
	} {
		if s, e := huff.Make(l); s != nil || e != api.ErrArg {
			t.Errorf("Make(%d): %d", l, e)
		}
	}
	for _, l := range [][]byte{{1, 1, 1}, {1, 2}, {2}, {0, 15}, {2, 2, 2}, {1, 2, 3}, {1, 1, 15}, bytes.Repeat([]byte{1}, 320), bytes.Repeat([]byte{15}, 320)} {
		if s, e := huff.Make(l); s != nil || e != api.ErrCode {
			t.Errorf("Make(%d): %d", l, e)
		}
	}
}

// P5.2: the chapter's example, the codes of all sets, and lengths of symbols that there are and aren't.
func TestCodes(t *testing.T) {
	s := made(t, []byte{2, 1, 3, 3})
	if c := s.Codes(); !slices.Equal(c, []uint32{2, 0, 6, 7}) {
		t.Errorf("%b", c)
	}
	for _, l := range some() {
		s, want := made(t, l), codes(l)
		c := s.Codes()
		if len(c) != len(l) {
			t.Fatalf("%d codes of %d", len(c), l)
		}
		for symbol, n := range c {
			if n != number(want[symbol]) || s.Length(symbol) != len(want[symbol]) {
				t.Fatalf("of %d: symbol %d: %b of %d bits, not %s", l, symbol, n, s.Length(symbol), want[symbol])
			}
		}
		for _, symbol := range []int{-1, len(l), len(l) + 1, 320, 1 << 32, math.MinInt, math.MaxInt} {
			if n := s.Length(symbol); n != 0 && symbol >= len(l) || n != 0 && symbol < 0 {
				t.Errorf("of %d: symbol %d: %d bits", l, symbol, n)
			}
		}
	}
}

// P5.3: a symbol's code is written behind what is there, the highest bit first.
func TestWrite(t *testing.T) {
	for _, l := range some() {
		s, want := made(t, l), codes(l)
		var w bitio.Writer
		w.Group(1, 2)
		wrote := "10"
		for symbol := range l {
			e := s.Write(&w, symbol)
			if wrote += want[symbol]; want[symbol] == "" && e != api.ErrArg || want[symbol] != "" && e != api.OK || w.Len() != len(wrote) {
				t.Fatalf("of %d: symbol %d: %d", l, symbol, e)
			}
		}
		if got := row(&w); got != wrote {
			t.Errorf("of %d: %s, not %s", l, got, wrote)
		}
	}
}

// P5.3: no writer, and a symbol without a code, are refused.
func TestWriteRefuses(t *testing.T) {
	for _, l := range [][]byte{nil, {0, 0}, {1}, {0, 1}, {2, 1, 3, 3}, huff.Fixed()} {
		s := made(t, l)
		for _, symbol := range []int{-1, len(l), len(l) + 1, 320, 1 << 32, math.MinInt, math.MaxInt} {
			var w bitio.Writer
			if e := s.Write(&w, symbol); e != api.ErrArg || w.Len() != 0 {
				t.Errorf("of %d: symbol %d: %d, %d bits", l, symbol, e, w.Len())
			}
		}
		for symbol := range 4 {
			if e := s.Write(nil, symbol); e != api.ErrArg {
				t.Errorf("of %d: no writer: %d", l, e)
			}
		}
	}
}

// P5.4: each code is read as its symbol, with no bit more than it has.
func TestRead(t *testing.T) {
	for _, l := range some() {
		s := made(t, l)
		for symbol, code := range codes(l) {
			if code == "" {
				continue
			}
			for _, behind := range []string{"", "0", "1", "0000000000000000", "1111111111111111"} {
				r := reader("1" + code + behind)
				r.Bit()
				if n, e := s.Read(r); n != symbol || e != api.OK || r.At() != 1+len(code) {
					t.Fatalf("of %d: %s: %d, %d at %d, not %d", l, code, n, e, r.At(), symbol)
				}
			}
		}
	}
}

// P5.4: where bits end ahead of a code's end, all that there were are read.
func TestReadEnds(t *testing.T) {
	for _, l := range some() {
		s := made(t, l)
		for symbol, code := range codes(l) {
			for cut := range len(code) {
				text := strings.Repeat("0", 16-cut) + code[:cut]
				r := reader(text)
				r.Group(16 - cut)
				if n, e := s.Read(r); n != 0 || e != api.ErrEnd || r.At() != 16 || r.Left() != 0 {
					t.Fatalf("of %d: %d bits of symbol %d: %d, %d at %d", l, cut, symbol, n, e, r.At())
				}
			}
		}
	}
}

// P5.4: a lone set's bit is 0, one of 1 is read and refused; a bare set reads nothing; no reader is refused.
func TestReadRefuses(t *testing.T) {
	for _, lone := range [][]byte{{1}, {0, 0, 1, 0}, append(make([]byte, 319), 1)} {
		s, symbol := made(t, lone), bytes.IndexByte(lone, 1)
		r := reader("01101111")
		for k, bit := range "01101111" {
			n, e := s.Read(r)
			if bit == '0' && (n != symbol || e != api.OK) || bit == '1' && (n != 0 || e != api.ErrCode) || r.At() != k+1 {
				t.Errorf("of %d: %c: %d, %d at %d", lone, bit, n, e, r.At())
			}
		}
		if n, e := s.Read(r); n != 0 || e != api.ErrEnd {
			t.Errorf("of %d: no bits: %d, %d", lone, n, e)
		}
	}
	for _, bare := range [][]byte{nil, {}, {0}, make([]byte, 320)} {
		s := made(t, bare)
		for _, text := range []string{"", "00000000", "11111111"} {
			r := reader(text)
			if n, e := s.Read(r); n != 0 || e != api.ErrCode || r.At() != 0 {
				t.Errorf("of %d: %s: %d, %d at %d", bare, text, n, e, r.At())
			}
		}
	}
	for _, l := range some() {
		if n, e := made(t, l).Read(nil); n != 0 || e != api.ErrArg {
			t.Errorf("of %d: no reader: %d, %d", l, n, e)
		}
	}
}

// P5.5: the fixed codes' lengths, and the codes as RFC 1951 lists them.
func TestFixed(t *testing.T) {
	want := slices.Concat(bytes.Repeat([]byte{8}, 144), bytes.Repeat([]byte{9}, 112), bytes.Repeat([]byte{7}, 24), bytes.Repeat([]byte{8}, 8))
	if l := huff.Fixed(); !bytes.Equal(l, want) {
		t.Errorf("%d", l)
	}
	if l := huff.Spans(); !bytes.Equal(l, bytes.Repeat([]byte{5}, 32)) {
		t.Errorf("%d", l)
	}
	c := made(t, huff.Fixed()).Codes()
	for symbol, code := range map[int]uint32{0: 0b00110000, 143: 0b10111111, 144: 0b110010000, 255: 0b111111111, 256: 0, 279: 0b0010111, 280: 0b11000000, 287: 0b11000111} {
		if c[symbol] != code {
			t.Errorf("symbol %d: %b, not %b", symbol, c[symbol], code)
		}
	}
	for symbol, code := range made(t, huff.Spans()).Codes() {
		if code != uint32(symbol) {
			t.Errorf("distance %d: %b", symbol, code)
		}
	}
}

// P5.5: a fixed block of literals tells another reader the text.
func TestFixedBlock(t *testing.T) {
	s := made(t, huff.Fixed())
	text := make([]byte, 600)
	rand.New(rand.NewSource(2)).Read(text)
	var w bitio.Writer
	w.Group(3, 3)
	for _, x := range text {
		s.Write(&w, int(x))
	}
	s.Write(&w, 256)
	got, err := io.ReadAll(flate.NewReader(bytes.NewReader(w.Bytes())))
	if err != nil || !bytes.Equal(got, text) {
		t.Errorf("%v: % x", err, got)
	}
}

// P5.6: no code begins with another one.
func TestPrefixFree(t *testing.T) {
	for _, l := range some() {
		s := made(t, l)
		var c []string
		for symbol, n := range s.Codes() {
			if length := s.Length(symbol); length > 0 {
				c = append(c, fmt.Sprintf("%0*b", length, n))
			}
		}
		slices.Sort(c) // what begins with a text comes right behind it, or behind another one that does
		for k := 1; k < len(c); k++ {
			if strings.HasPrefix(c[k], c[k-1]) {
				t.Fatalf("of %d: %s begins with %s", l, c[k], c[k-1])
			}
		}
	}
}

// P5.6: symbols that were written are read.
func TestWrittenIsRead(t *testing.T) {
	dice := rand.New(rand.NewSource(3))
	for _, l := range some() {
		s := made(t, l)
		var w bitio.Writer
		var wrote []int
		for range 200 {
			if symbol := dice.Intn(len(l) + 1); s.Write(&w, symbol) == api.OK {
				wrote = append(wrote, symbol)
			}
		}
		r := bitio.New(w.Bytes())
		for _, symbol := range wrote {
			if n, e := s.Read(r); n != symbol || e != api.OK {
				t.Fatalf("of %d: %d, %d, not %d", l, n, e, symbol)
			}
		}
		if r.At() != w.Len() {
			t.Fatalf("of %d: at %d of %d", l, r.At(), w.Len())
		}
	}
}

// The rules that hold everywhere: what is handed in is neither changed nor kept, an answer is new memory; a zero set is bare.
func TestArguments(t *testing.T) {
	room := []byte{2, 1, 3, 3, 1, 1, 1, 1}
	was := slices.Clone(room)
	s := made(t, room[:4])
	if !bytes.Equal(room, was) {
		t.Fatalf("what was handed in is changed: %d", room)
	}
	clear(room)
	c := s.Codes()
	for k := range c {
		c[k] = 9
	}
	if c = append(c, 1); !slices.Equal(s.Codes(), []uint32{2, 0, 6, 7}) || s.Length(0) != 2 || !s.Full() || len(c) != 5 {
		t.Errorf("what was handed in, or answered, is kept: %b", s.Codes())
	}
	for _, f := range []func() []byte{huff.Fixed, huff.Spans} {
		l := f()
		first := slices.Clone(l)
		clear(l)
		if l = append(l, 1); !bytes.Equal(f(), first) {
			t.Errorf("an answer is kept: %d", f())
		}
	}
	var zero, w = huff.Set{}, bitio.Writer{}
	for _, s := range []*huff.Set{&zero, made(t, nil), made(t, []byte{})} {
		r := bitio.New([]byte{0})
		n, e := s.Read(r)
		if s.Full() || len(s.Codes()) != 0 || s.Length(0) != 0 || s.Write(&w, 0) != api.ErrArg || n != 0 || e != api.ErrCode || r.At() != 0 {
			t.Errorf("a set of nothing: %d, %d", n, e)
		}
	}
}
