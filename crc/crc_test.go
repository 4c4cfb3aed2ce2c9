package crc_test

import (
	"bytes"
	"hash/crc32"
	"math"
	"math/rand"
	"slices"
	"testing"

	"theodolite/crc"
)

// feed puts a byte to c, bit by bit, as the chapter's words have it.
func feed(c uint32, x byte) uint32 {
	c ^= uint32(x)
	for range 8 {
		out := c & 1
		c >>= 1
		if out == 1 {
			c ^= 0xEDB88320
		}
	}
	return c
}

// plain is the sum of b, bit by bit.
func plain(b []byte) uint32 {
	c := uint32(math.MaxUint32)
	for _, x := range b {
		c = feed(c, x)
	}
	return ^c
}

// fed is what n bytes of 0 make of each bit alone, found by doubling.
type fed [32]uint32

func (f fed) of(c uint32) uint32 {
	var out uint32
	for i, x := range f {
		if c>>i&1 == 1 {
			out ^= x
		}
	}
	return out
}

func (f fed) then(g fed) fed {
	for i, x := range f {
		f[i] = g.of(x)
	}
	return f
}

// zeros is what n bytes of 0 make of c.
func zeros(c uint32, n int) uint32 {
	var once fed
	for i := range once {
		once[i] = feed(1<<i, 0)
	}
	for ; n > 0; n >>= 1 {
		if n&1 == 1 {
			c = once.of(c)
		}
		once = once.then(once)
	}
	return c
}

// text is n bytes.
func text(dice *rand.Rand, n int) []byte {
	b := make([]byte, n)
	dice.Read(b)
	return b
}

// signed is b with its sum behind it.
func signed(b []byte) []byte {
	c := plain(b)
	return append(slices.Clone(b), byte(c), byte(c>>8), byte(c>>16), byte(c>>24))
}

// burst turns bits of b from the bit at on, by a pattern of 32 bits.
func burst(b []byte, at int, pattern uint32) []byte {
	b = slices.Clone(b)
	for i := range 32 {
		if pattern>>i&1 == 1 {
			b[(at+i)/8] ^= 1 << ((at + i) % 8)
		}
	}
	return b
}

// bursts calls look with patterns of up to 32 bits, the lowest of which is 1, at each place of b that has room for them.
func bursts(dice *rand.Rand, b []byte, look func(other []byte)) {
	for at := range 8 * len(b) {
		room := min(32, 8*len(b)-at)
		for _, p := range []uint32{1, 3, math.MaxUint32, 1<<31 | 1, 0xEDB88320 | 1, dice.Uint32() | 1, dice.Uint32() | 1} {
			if room < 32 {
				p &= 1<<room - 1
			}
			look(burst(b, at, p))
		}
	}
}

// P2.1: sums that are known.
func TestKnownSums(t *testing.T) {
	tab := crc.New()
	for _, c := range []struct {
		text string
		want uint32
	}{
		{"", 0},
		{"\x00", 0xD202EF8D},
		{"\xff", 0xFF000000},
		{"a", 0xE8B7BE43},
		{"abc", 0x352441C2},
		{"123456789", 0xCBF43926},
		{"\x00\x00\x00\x00", 0x2144DF1C},
		{"\xff\xff\xff\xff", 0xFFFFFFFF},
		{"The quick brown fox jumps over the lazy dog", 0x414FA339},
	} {
		if got := tab.Sum([]byte(c.text)); got != c.want {
			t.Errorf("Sum(%q): %X, not %X", c.text, got, c.want)
		}
		if got := tab.More(0, []byte(c.text)); got != c.want {
			t.Errorf("More(0, %q): %X, not %X", c.text, got, c.want)
		}
	}
}

// P2.1: the sum of any text is what bit by bit comes of it; each byte of the table is asked for.
func TestSum(t *testing.T) {
	tab, dice := crc.New(), rand.New(rand.NewSource(1))
	look := func(b []byte) {
		if got, want := tab.Sum(b), plain(b); got != want || want != crc32.ChecksumIEEE(b) {
			t.Fatalf("Sum(% x): %X, not %X", b, got, want)
		}
	}
	for x := range 256 {
		look([]byte{byte(x)})
		look([]byte{byte(x), 0})
		look([]byte{7, byte(x), 255})
	}
	for n := range 300 {
		look(text(dice, n))
		look(make([]byte, n))
		look(bytes.Repeat([]byte{255}, n))
	}
	look(text(dice, 1<<20))
}

// P2.1: c turned is fed b, and turned, whatever number c is.
func TestMore(t *testing.T) {
	tab, dice := crc.New(), rand.New(rand.NewSource(2))
	for _, c := range []uint32{0, 1, math.MaxUint32, 1 << 31, 0xEDB88320, dice.Uint32(), dice.Uint32()} {
		if got := tab.More(c, nil); got != c {
			t.Errorf("More(%X) of nothing: %X", c, got)
		}
		for n := range 64 {
			b := text(dice, n)
			want := ^c
			for _, x := range b {
				want = feed(want, x)
			}
			if got := tab.More(c, b); got != ^want {
				t.Fatalf("More(%X, % x): %X, not %X", c, b, got, ^want)
			}
		}
	}
}

// P2.2: bytes of 0 are fed one by one, without turning any bits; fewer than one change nothing.
func TestShift(t *testing.T) {
	if got := crc.Shift(1, 1); got != 0x77073096 {
		t.Errorf("Shift(1, 1): %X", got)
	}
	dice := rand.New(rand.NewSource(3))
	for _, c := range []uint32{0, 1, math.MaxUint32, 1 << 31, 0xEDB88320, dice.Uint32(), dice.Uint32()} {
		for _, n := range []int{0, -1, -2, math.MinInt, math.MinInt + 1} {
			if got := crc.Shift(c, n); got != c {
				t.Errorf("Shift(%X, %d): %X", c, n, got)
			}
		}
		want := c
		for n := 1; n <= 2000; n++ {
			want = feed(want, 0)
			if got := crc.Shift(c, n); got != want {
				t.Fatalf("Shift(%X, %d): %X, not %X", c, n, got, want)
			}
		}
	}
}

// P2.2: so many bytes that feeding them one by one would not end.
func TestShiftFar(t *testing.T) {
	dice := rand.New(rand.NewSource(4))
	far := []int{math.MaxInt, math.MaxInt - 1, math.MaxUint32, math.MaxUint32 + 1}
	for k := range 63 {
		far = append(far, 1<<k, 1<<k-1, 1<<k+1)
	}
	for range 300 {
		far = append(far, dice.Int()>>dice.Intn(63))
	}
	for _, n := range far {
		for _, c := range []uint32{1, 1 << 31, dice.Uint32()} {
			if got, want := crc.Shift(c, n), zeros(c, n); got != want {
				t.Fatalf("Shift(%X, %d): %X, not %X", c, n, got, want)
			}
		}
	}
}

// P2.2: what is put to the shifted sum is put as it is, whatever numbers these are.
func TestJoin(t *testing.T) {
	dice := rand.New(rand.NewSource(5))
	for _, n := range []int{math.MinInt, -1, 0, 1, 2, 3, 255, 256, 1 << 40, math.MaxInt} {
		for range 20 {
			a, b := dice.Uint32(), dice.Uint32()
			want := a ^ b
			if n > 0 {
				want = zeros(a, n) ^ b
			}
			if got := crc.Join(a, b, n); got != want {
				t.Fatalf("Join(%X, %X, %d): %X, not %X", a, b, n, got, want)
			}
		}
	}
}

// P2.3: the last four bytes, the lowest first, are the sum of those ahead of them.
func TestFits(t *testing.T) {
	tab, dice := crc.New(), rand.New(rand.NewSource(6))
	for _, c := range []struct {
		text string
		want bool
	}{
		{"", false},
		{"\x00", false},
		{"\x00\x00", false},
		{"\x00\x00\x00", false},
		{"\x00\x00\x00\x00", true},
		{"\x00\x00\x00\x01", false},
		{"\x01\x00\x00\x00", false},
		{"\x00\x00\x00\x00\x00", false},
		{"\x00\x8d\xef\x02\xd2", true},
		{"\x00\xd2\x02\xef\x8d", false},
		{"\xff\x00\x00\x00\xff", true},
		{"\xff\xff\xff\xff\xff\xff\xff\xff", true},
		{"123456789\x26\x39\xf4\xcb", true},
		{"123456789\xcb\xf4\x39\x26", false},
		{"123456788\x26\x39\xf4\xcb", false},
		{"123456789\x26\x39\xf4", false},
		{"123456789\x26\x39\xf4\xcb\x00", false},
	} {
		if got := tab.Fits([]byte(c.text)); got != c.want {
			t.Errorf("Fits(%q): %t", c.text, got)
		}
	}
	for n := range 300 {
		b := signed(text(dice, n))
		if !tab.Fits(b) {
			t.Errorf("% x doesn't fit", b)
		}
		b[dice.Intn(len(b))] ^= byte(1 + dice.Intn(255))
		if tab.Fits(b) {
			t.Errorf("% x fits", b)
		}
	}
}

// P2.4: More of Sum is Sum of both, and so is Join, wherever a text is cut.
func TestCut(t *testing.T) {
	tab, dice := crc.New(), rand.New(rand.NewSource(7))
	for range 60 {
		b := text(dice, dice.Intn(200))
		want := tab.Sum(b)
		for cut := range len(b) + 1 {
			head, tail := b[:cut], b[cut:]
			if got := tab.More(tab.Sum(head), tail); got != want {
				t.Fatalf("More at %d of % x: %X, not %X", cut, b, got, want)
			}
			if got := crc.Join(tab.Sum(head), tab.Sum(tail), len(tail)); got != want {
				t.Fatalf("Join at %d of % x: %X, not %X", cut, b, got, want)
			}
		}
	}
	if got := crc.Join(tab.Sum([]byte("1234")), tab.Sum([]byte("56789")), 5); got != 0xCBF43926 {
		t.Errorf("Join of 1234 and 56789: %X", got)
	}
}

// P2.4: texts whose unlike bits lie within 32 have unlike sums; of one that fits, the other one doesn't.
func TestBursts(t *testing.T) {
	tab, dice := crc.New(), rand.New(rand.NewSource(8))
	for _, n := range []int{1, 2, 3, 4, 5, 8, 9, 64, 300} {
		b := text(dice, n)
		sum := tab.Sum(b)
		bursts(dice, b, func(other []byte) {
			if tab.Sum(other) == sum {
				t.Errorf("% x and % x have one sum", b, other)
			}
		})
	}
	for _, n := range []int{0, 1, 2, 3, 4, 5, 64, 300} {
		b := signed(text(dice, n))
		bursts(dice, b, func(other []byte) {
			if tab.Fits(other) {
				t.Errorf("% x fits, and so does % x", b, other)
			}
		})
	}
}

// The rules that hold everywhere: what is handed in isn't changed, its spare room neither; what a table answers hangs on nothing else.
func TestArguments(t *testing.T) {
	dice := rand.New(rand.NewSource(9))
	room := text(dice, 64)
	was := slices.Clone(room)
	one, other := crc.New(), crc.New()
	copied := *one
	for n := range 60 {
		b := room[:n]
		sum := plain(b)
		for range 2 {
			for _, tab := range []*crc.Table{one, other, &copied} {
				if tab.Sum(b) != sum || tab.More(sum, b) != one.More(sum, b) || tab.Fits(b) != (n >= 4 && bytes.Equal(signed(b[:n-4]), b)) {
					t.Fatalf("tables answer otherwise of % x", b)
				}
			}
		}
		if one == other || !bytes.Equal(room, was) {
			t.Fatal("something that was handed in is changed, or tables are one")
		}
	}
	if one.Sum(nil) != one.Sum([]byte{}) || one.More(5, nil) != one.More(5, []byte{}) || one.Fits(nil) || one.Fits([]byte{}) {
		t.Error("nil and empty are unlike")
	}
}
