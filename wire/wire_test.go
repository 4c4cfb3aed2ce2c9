package wire_test

import (
	"bytes"
	"math"
	"math/rand"
	"slices"
	"strings"
	"testing"

	"theodolite/api"
	"theodolite/wire"
)

const letters = "bhHwWqQvzn"

// rooms is how many bits a number of each letter of a fixed size has.
var rooms = map[byte]int{'b': 8, 'h': 16, 'H': 16, 'w': 32, 'W': 32, 'q': 64, 'Q': 64}

// edges are numbers about each power of two, with either sign.
func edges() []uint64 {
	var l []uint64
	for k := range 64 {
		p := uint64(1) << k
		l = append(l, p-1, p, p+1, -p, -p-1, -p+1)
	}
	return append(l, 300, 624485)
}

// fits tells whether a letter has room for a number.
func fits(letter byte, n uint64) bool {
	room, fixed := rooms[letter]
	return !fixed || n>>room == 0
}

func ones(n int, last ...byte) []byte {
	return append(bytes.Repeat([]byte{255}, n), last...)
}

func zeros(n int, last ...byte) []byte {
	return append(bytes.Repeat([]byte{128}, n), last...)
}

// forms are numbers and their bytes, by letters, as the table of the chapter has them.
var forms = []struct {
	pattern string
	l       []uint64
	b       []byte
}{
	{"", nil, nil},
	{"b", []uint64{0}, []byte{0}},
	{"b", []uint64{255}, []byte{255}},
	{"h", []uint64{0x0102}, []byte{2, 1}},
	{"H", []uint64{0x0102}, []byte{1, 2}},
	{"h", []uint64{math.MaxUint16}, ones(2)},
	{"H", []uint64{math.MaxUint16}, ones(2)},
	{"w", []uint64{0x01020304}, []byte{4, 3, 2, 1}},
	{"W", []uint64{0x01020304}, []byte{1, 2, 3, 4}},
	{"w", []uint64{math.MaxUint32}, ones(4)},
	{"W", []uint64{math.MaxUint32}, ones(4)},
	{"q", []uint64{0x0102030405060708}, []byte{8, 7, 6, 5, 4, 3, 2, 1}},
	{"Q", []uint64{0x0102030405060708}, []byte{1, 2, 3, 4, 5, 6, 7, 8}},
	{"q", []uint64{math.MaxUint64}, ones(8)},
	{"Q", []uint64{math.MaxUint64}, ones(8)},
	{"v", []uint64{0}, []byte{0}},
	{"v", []uint64{127}, []byte{127}},
	{"v", []uint64{128}, []byte{128, 1}},
	{"v", []uint64{300}, []byte{172, 2}},
	{"v", []uint64{16383}, []byte{255, 127}},
	{"v", []uint64{16384}, []byte{128, 128, 1}},
	{"v", []uint64{1<<63 - 1}, ones(8, 127)},
	{"v", []uint64{1 << 63}, zeros(9, 1)},
	{"v", []uint64{math.MaxUint64}, ones(9, 1)},
	{"z", []uint64{0}, []byte{0}},
	{"z", []uint64{1}, []byte{2}},
	{"z", []uint64{math.MaxUint64}, []byte{1}},
	{"z", []uint64{63}, []byte{126}},
	{"z", []uint64{1<<64 - 64}, []byte{127}},
	{"z", []uint64{64}, []byte{128, 1}},
	{"z", []uint64{1<<63 - 1}, []byte{254, 255, 255, 255, 255, 255, 255, 255, 255, 1}},
	{"z", []uint64{1 << 63}, ones(9, 1)},
	{"n", []uint64{0}, []byte{0}},
	{"n", []uint64{math.MaxUint64}, []byte{1}},
	{"n", []uint64{64}, []byte{128, 1}},
	{"n", []uint64{1<<55 - 1}, []byte{254, 255, 255, 255, 255, 255, 255, 127}},
	{"n", []uint64{1 << 55}, zeros(8, 1)},
	{"n", []uint64{1 << 62}, zeros(8, 128)},
	{"n", []uint64{1 << 63}, ones(9)},
	{"bH", []uint64{1, 2}, []byte{1, 0, 2}},
	{"vzbn", []uint64{300, math.MaxUint64, 7, 1}, []byte{172, 2, 1, 7, 2}},
}

// P1.1, P1.2: the bytes of each letter, and back, whatever stands behind them.
func TestForms(t *testing.T) {
	for _, c := range forms {
		if b, e := wire.Put(c.pattern, c.l); e != api.OK || !bytes.Equal(b, c.b) {
			t.Errorf("Put(%q, %d): % x, %d", c.pattern, c.l, b, e)
		}
		for _, more := range []string{"", "\x00", "\x80", "\xff\xff"} {
			l, n, e := wire.Get(c.pattern, append(slices.Clone(c.b), more...))
			if e != api.OK || n != len(c.b) || !slices.Equal(l, c.l) {
				t.Errorf("Get(%q, % x): %d, %d, %d", c.pattern, c.b, l, n, e)
			}
		}
	}
}

// P1.1: ErrSpec ahead of ErrRange; nothing beside an error.
func TestPutRefuses(t *testing.T) {
	long := strings.Repeat("b", 65)
	for _, c := range []struct {
		pattern string
		l       []uint64
		want    api.Errno
	}{
		{"x", []uint64{1}, api.ErrSpec},
		{"B", []uint64{1}, api.ErrSpec},
		{"\x00", []uint64{1}, api.ErrSpec},
		{"b b", []uint64{1, 1, 1}, api.ErrSpec},
		{"bé", []uint64{1, 1}, api.ErrSpec},
		{"bé", []uint64{1, 1, 1}, api.ErrSpec},
		{"", []uint64{1}, api.ErrSpec},
		{"b", nil, api.ErrSpec},
		{"b", []uint64{1, 2}, api.ErrSpec},
		{"bb", []uint64{1}, api.ErrSpec},
		{long, make([]uint64, 65), api.ErrSpec},
		{"bx", []uint64{256, 1}, api.ErrSpec},
		{"b", []uint64{256, 1}, api.ErrSpec},
		{"b", []uint64{256}, api.ErrRange},
		{"b", []uint64{math.MaxUint64}, api.ErrRange},
		{"h", []uint64{1 << 16}, api.ErrRange},
		{"H", []uint64{1 << 16}, api.ErrRange},
		{"w", []uint64{1 << 32}, api.ErrRange},
		{"W", []uint64{1 << 32}, api.ErrRange},
		{"vbv", []uint64{1, 256, 1}, api.ErrRange},
		{"vb", []uint64{1, 256}, api.ErrRange},
	} {
		if b, e := wire.Put(c.pattern, c.l); e != c.want || len(b) != 0 {
			t.Errorf("Put(%q, %d): % x, %d, not %d", c.pattern, c.l, b, e, c.want)
		}
	}
}

// P1.1, P1.2: 64 letters are as many as may be.
func TestLongestPattern(t *testing.T) {
	for _, letter := range []byte(letters) {
		p := strings.Repeat(string(letter), 64)
		l := make([]uint64, 64)
		for i := range l {
			l[i] = uint64(i)
		}
		b, e := wire.Put(p, l)
		if e != api.OK {
			t.Fatalf("Put(64 of %c): %d", letter, e)
		}
		if got, n, e := wire.Get(p, b); e != api.OK || n != len(b) || !slices.Equal(got, l) {
			t.Errorf("Get(64 of %c): %d, %d, %d", letter, got, n, e)
		}
		if l, n, e := wire.Get(p+string(letter), make([]byte, 600)); e != api.ErrSpec || n != 0 || len(l) != 0 {
			t.Errorf("Get(65 of %c): %d, %d, %d", letter, l, n, e)
		}
	}
}

// P1.1: only the letters of the chapter are letters, and each has room for just so many bits.
func TestLettersAndRooms(t *testing.T) {
	for c := range 256 {
		letter, is := byte(c), strings.IndexByte(letters, byte(c)) >= 0
		p := string([]byte{letter})
		if _, e := wire.Put(p, []uint64{0}); is != (e == api.OK) || !is && e != api.ErrSpec {
			t.Errorf("Put(%q): %d", p, e)
		}
		if _, _, e := wire.Get(p, make([]byte, 16)); is != (e == api.OK) || !is && e != api.ErrSpec {
			t.Errorf("Get(%q): %d", p, e)
		}
		if _, e := wire.New(make([]byte, 16)).Next(letter); is != (e == api.OK) || !is && e != api.ErrSpec {
			t.Errorf("Next(%q): %d", p, e)
		}
		if !is {
			continue
		}
		for _, n := range edges() {
			want := api.OK
			if !fits(letter, n) {
				want = api.ErrRange
			}
			if _, e := wire.Put(p, []uint64{n}); e != want {
				t.Errorf("Put(%q, %d): %d", p, n, e)
			}
		}
	}
}

// P1.2: ErrSpec, else the first fault from the left; nothing beside an error.
func TestGetRefuses(t *testing.T) {
	for _, c := range []struct {
		pattern string
		b       []byte
		want    api.Errno
	}{
		{"?", nil, api.ErrSpec},
		{"b?", nil, api.ErrSpec},
		{"vx", []byte{128, 0}, api.ErrSpec},
		{"b", nil, api.ErrEnd},
		{"h", ones(1), api.ErrEnd},
		{"H", ones(1), api.ErrEnd},
		{"w", ones(3), api.ErrEnd},
		{"W", ones(3), api.ErrEnd},
		{"q", ones(7), api.ErrEnd},
		{"Q", ones(7), api.ErrEnd},
		{"v", nil, api.ErrEnd},
		{"v", ones(1), api.ErrEnd},
		{"v", ones(9), api.ErrEnd},
		{"v", zeros(9), api.ErrEnd},
		{"z", ones(9), api.ErrEnd},
		{"n", nil, api.ErrEnd},
		{"n", ones(8), api.ErrEnd},
		{"n", zeros(8), api.ErrEnd},
		{"v", zeros(1, 0), api.ErrVar},
		{"v", zeros(2, 0), api.ErrVar},
		{"v", zeros(8, 0), api.ErrVar},
		{"v", zeros(9, 0), api.ErrVar},
		{"v", ones(9, 0), api.ErrVar},
		{"v", ones(9, 2), api.ErrVar},
		{"v", ones(9, 3), api.ErrVar},
		{"v", ones(9, 127), api.ErrVar},
		{"v", zeros(9, 2), api.ErrVar},
		{"v", zeros(10, 0), api.ErrVar},
		{"v", zeros(10, 1), api.ErrVar},
		{"v", ones(10, 1), api.ErrVar},
		{"v", ones(9, 129, 0), api.ErrVar},
		{"v", ones(10), api.ErrVar},
		{"z", zeros(1, 0), api.ErrVar},
		{"z", zeros(9, 0), api.ErrVar},
		{"z", zeros(9, 2), api.ErrVar},
		{"z", ones(10, 1), api.ErrVar},
		{"n", zeros(1, 0), api.ErrVar},
		{"n", ones(7, 0), api.ErrVar},
		{"n", zeros(8, 0), api.ErrVar},
		{"n", ones(8, 0), api.ErrVar},
		{"bb", []byte{1}, api.ErrEnd},
		{"vw", []byte{128, 0}, api.ErrVar},
		{"wv", []byte{128, 0}, api.ErrEnd},
		{"bvb", []byte{1, 128}, api.ErrEnd},
		{"bvb", []byte{1, 128, 0}, api.ErrVar},
	} {
		if l, n, e := wire.Get(c.pattern, c.b); e != c.want || n != 0 || len(l) != 0 {
			t.Errorf("Get(%q, % x): %d, %d, %d, not %d", c.pattern, c.b, l, n, e, c.want)
		}
	}
}

// P1.3: numbers and texts, one behind the other.
func TestReader(t *testing.T) {
	b := []byte("\x05\x01\x02abc\xac\x02\x01\x09")
	r := wire.New(b)
	stands := func(at int) {
		t.Helper()
		if r.At() != at || r.Left() != len(b)-at {
			t.Fatalf("At %d, Left %d, not %d", r.At(), r.Left(), at)
		}
	}
	next := func(letter byte, want uint64, fault api.Errno) {
		t.Helper()
		if n, e := r.Next(letter); n != want || e != fault {
			t.Fatalf("Next(%q): %d, %d", letter, n, e)
		}
	}
	text := func(n int, want string, fault api.Errno) {
		t.Helper()
		if x, e := r.Text(n); string(x) != want || e != fault {
			t.Fatalf("Text(%d): %q, %d", n, x, e)
		}
	}
	stands(0)
	next('b', 5, api.OK)
	stands(1)
	next('H', 0x0102, api.OK)
	stands(3)
	text(0, "", api.OK)
	stands(3)
	text(3, "abc", api.OK)
	stands(6)
	next('v', 300, api.OK)
	next('z', math.MaxUint64, api.OK)
	stands(9)
	text(1, "\x09", api.OK)
	stands(10)
	text(0, "", api.OK)
	next('b', 0, api.ErrEnd)
	text(1, "", api.ErrEnd)
	stands(10)
}

// P1.3: with an error nothing is read.
func TestReaderRefuses(t *testing.T) {
	for _, c := range []struct {
		letter byte
		b      []byte
		want   api.Errno
	}{
		{'?', ones(4), api.ErrSpec}, {0, ones(4), api.ErrSpec}, {'?', nil, api.ErrSpec},
		{'b', nil, api.ErrEnd}, {'h', ones(1), api.ErrEnd}, {'H', ones(1), api.ErrEnd},
		{'w', ones(3), api.ErrEnd}, {'W', ones(3), api.ErrEnd}, {'q', ones(7), api.ErrEnd}, {'Q', ones(7), api.ErrEnd},
		{'v', ones(9), api.ErrEnd}, {'z', ones(9), api.ErrEnd}, {'n', ones(8), api.ErrEnd},
		{'v', zeros(2, 0, 7), api.ErrVar}, {'z', ones(9, 2, 7), api.ErrVar}, {'n', ones(8, 0, 7), api.ErrVar},
	} {
		b := append([]byte{1}, c.b...)
		r := wire.New(b)
		r.Next('b')
		if n, e := r.Next(c.letter); n != 0 || e != c.want || r.At() != 1 || r.Left() != len(c.b) {
			t.Errorf("Next(%q) of % x: %d, %d, At %d, Left %d", c.letter, c.b, n, e, r.At(), r.Left())
		}
		for _, n := range []int{-1, math.MinInt, len(c.b) + 1, math.MaxInt} {
			if x, e := r.Text(n); len(x) != 0 || e != api.ErrEnd || r.At() != 1 {
				t.Errorf("Text(%d) of % x: % x, %d, At %d", n, c.b, x, e, r.At())
			}
		}
		if x, e := r.Text(len(c.b)); !bytes.Equal(x, c.b) || e != api.OK || r.Left() != 0 {
			t.Errorf("Text of % x: % x, %d", c.b, x, e)
		}
	}
}

// P1.4: numbers with a sign, and back.
func TestSign(t *testing.T) {
	for _, c := range []struct {
		n int64
		u uint64
	}{{0, 0}, {-1, 1}, {1, 2}, {-2, 3}, {2, 4}, {-3, 5}, {3, 6}, {math.MaxInt64, math.MaxUint64 - 1}, {math.MinInt64, math.MaxUint64}} {
		if wire.Sign(c.n) != c.u || wire.Unsign(c.u) != c.n {
			t.Errorf("%d: %d; %d: %d", c.n, wire.Sign(c.n), c.u, wire.Unsign(c.u))
		}
	}
	for _, n := range edges() {
		if wire.Sign(wire.Unsign(n)) != n || wire.Unsign(wire.Sign(int64(n))) != int64(n) {
			t.Errorf("%d doesn't come back", n)
		}
	}
}

// P1.5: Get of Put are the numbers.
func TestGetOfPut(t *testing.T) {
	dice := rand.New(rand.NewSource(1))
	all := edges()
	for range 5000 {
		var p []byte
		var l []uint64
		for range dice.Intn(65) {
			letter, n := letters[dice.Intn(len(letters))], all[dice.Intn(len(all))]
			if room, fixed := rooms[letter]; fixed {
				n &= 1<<room - 1
			}
			p, l = append(p, letter), append(l, n)
		}
		b, e := wire.Put(string(p), l)
		if e != api.OK {
			t.Fatalf("Put(%q, %d): %d", p, l, e)
		}
		got, n, e := wire.Get(string(p), append(slices.Clone(b), 255))
		if e != api.OK || n != len(b) || !slices.Equal(got, l) {
			t.Fatalf("Get(%q, % x): %d, %d, %d", p, b, got, n, e)
		}
		if len(b) == 0 {
			continue
		}
		if got, n, e := wire.Get(string(p), b[:dice.Intn(len(b))]); e != api.ErrEnd || n != 0 || len(got) != 0 {
			t.Fatalf("Get(%q) of a beginning of % x: %d, %d, %d", p, b, got, n, e)
		}
	}
}

// P1.5: Put of what was Got are the bytes that were read; Next reads what Get reads.
func TestPutOfGot(t *testing.T) {
	look := func(letter byte, b []byte) {
		p := string(letter)
		l, n, e := wire.Get(p, b)
		r := wire.New(b)
		one, fault := r.Next(letter)
		if fault != e || r.At() != n || e == api.OK && one != l[0] || e != api.OK && one != 0 {
			t.Fatalf("Next(%s) of % x: %d, %d, At %d", p, b, one, fault, r.At())
		}
		if e != api.OK {
			return
		}
		if back, e := wire.Put(p, l); e != api.OK || !bytes.Equal(back, b[:n]) {
			t.Fatalf("%s: % x is %d, whose bytes are % x, %d", p, b[:n], l, back, e)
		}
	}
	dice := rand.New(rand.NewSource(2))
	for _, letter := range []byte(letters) {
		for c := range 1 << 16 {
			look(letter, []byte{byte(c), byte(c >> 8)})
		}
		for k := range 12 {
			for c := range 256 {
				look(letter, zeros(k, byte(c)))
				look(letter, ones(k, byte(c)))
				look(letter, ones(k, byte(c), 1))
			}
		}
		for range 20000 {
			b := make([]byte, dice.Intn(14))
			for i := range b {
				b[i] = byte(dice.Intn(256)) | byte(dice.Intn(4))<<7
			}
			look(letter, b)
		}
	}
}

// P1.5: v, z and n have as few bytes as may be.
func TestFewBytes(t *testing.T) {
	for _, n := range edges() {
		size := func(u uint64, most int) int {
			k := 1
			for k < most && u>>(7*k) != 0 {
				k++
			}
			return k
		}
		for _, c := range []struct {
			letter string
			want   int
		}{{"v", size(n, 10)}, {"z", size(wire.Sign(int64(n)), 10)}, {"n", size(wire.Sign(int64(n)), 9)}} {
			if b, e := wire.Put(c.letter, []uint64{n}); e != api.OK || len(b) != c.want {
				t.Errorf("Put(%s, %d): % x, %d, not %d bytes", c.letter, n, b, e, c.want)
			}
		}
	}
}

// Rule 5: what is handed in is neither changed nor kept, and an answer is new memory.
func TestMemory(t *testing.T) {
	b := append(make([]byte, 0, 16), 1, 2, 3)
	b[:16][3] = 77
	r := wire.New(b)
	b[0] = 9
	x, _ := r.Text(2)
	if string(x) != "\x01\x02" {
		t.Errorf("the reader sees what came later: % x", x)
	}
	_ = append(x[:0], 50, 51, 52)
	if n, e := r.Next('b'); n != 3 || e != api.OK {
		t.Errorf("a text shares memory with its reader: %d, %d", n, e)
	}
	l := append(make([]uint64, 0, 4), 5, 6)
	l[:4][2] = 77
	p, _ := wire.Put("bb", l)
	q, _ := wire.Put("bb", l)
	p[0] = 8
	if q[0] != 5 || !slices.Equal(l[:3], []uint64{5, 6, 77}) {
		t.Errorf("Put shares or changes: %d, %d", q, l[:3])
	}
	m, _, _ := wire.Get("bb", b)
	m[0] = 1
	if !bytes.Equal(b[:4], []byte{9, 2, 3, 77}) {
		t.Errorf("what was handed in is changed: % x", b[:4])
	}
}
