package adler_test

import (
	"bytes"
	"hash/adler32"
	"math"
	"math/big"
	"math/rand"
	"slices"
	"testing"

	"theodolite/adler"
)

const modulus = 65521

// more goes on from s byte by byte, as the chapter's words have it.
func more(s uint32, b []byte) uint32 {
	hi, lo := uint64(s)/65536%modulus, uint64(s)%65536%modulus
	for _, x := range b {
		lo = (lo + uint64(x)) % modulus
		hi = (hi + lo) % modulus
	}
	return uint32(65536*hi + lo)
}

// both is what Join's words say, in numbers of any size.
func both(s, t uint32, n int) uint32 {
	num := func(x int64) *big.Int { return big.NewInt(x) }
	rest := func(x *big.Int) uint32 { return uint32(x.Mod(x, num(modulus)).Int64()) }
	sa, ta, sb, tb := num(int64(s%65536)), num(int64(t%65536)), num(int64(s/65536)), num(int64(t/65536))
	if n < 0 {
		n = 0
	}
	times := num(0).Add(sa, num(65520))
	times.Mul(times, num(int64(n)))
	a := num(0).Add(sa, ta)
	a.Add(a, num(65520))
	b := num(0).Add(sb, tb)
	b.Add(b, times)
	return 65536*rest(b) + rest(a)
}

// starts are sums to go on from: right ones, and such whose parts are at the modulus, or beyond it.
func starts(dice *rand.Rand) []uint32 {
	parts := []uint32{0, 1, 2, 65519, 65520, 65521, 65522, 65535, uint32(dice.Intn(65536))}
	l := make([]uint32, 0, len(parts)*len(parts))
	for _, hi := range parts {
		for _, lo := range parts {
			l = append(l, hi<<16|lo)
		}
	}
	return l
}

// text is n bytes.
func text(dice *rand.Rand, n int) []byte {
	b := make([]byte, n)
	dice.Read(b)
	return b
}

// P3.1: sums that are known.
func TestKnownSums(t *testing.T) {
	for _, c := range []struct {
		text string
		want uint32
	}{
		{"", 1},
		{"\x00", 0x00010001},
		{"\x00\x00\x00", 0x00030001},
		{"\x01", 0x00020002},
		{"\xff", 0x01000100},
		{"a", 0x00620062},
		{"abc", 0x024D0127},
		{"123456789", 0x091E01DE},
		{"Wiki", 0x03DA0195},
		{"Wikipedia", 0x11E60398},
	} {
		if got := adler.Sum([]byte(c.text)); got != c.want {
			t.Errorf("Sum(%q): %X, not %X", c.text, got, c.want)
		}
		if got := adler.More(1, []byte(c.text)); got != c.want {
			t.Errorf("More(1, %q): %X, not %X", c.text, got, c.want)
		}
	}
}

// P3.1: the sum of any text is what byte by byte comes of it.
func TestSum(t *testing.T) {
	dice := rand.New(rand.NewSource(1))
	look := func(b []byte) {
		if got, want := adler.Sum(b), more(1, b); got != want || want != adler32.Checksum(b) {
			t.Fatalf("Sum of %d bytes: %X, not %X", len(b), got, want)
		}
	}
	for x := range 256 {
		look([]byte{byte(x)})
		look([]byte{byte(x), 0})
		look([]byte{7, byte(x), 255})
	}
	for n := range 600 {
		look(text(dice, n))
		look(make([]byte, n))
		look(bytes.Repeat([]byte{255}, n))
	}
	for _, n := range []int{65520, 65521, 65522, 2 * 65521, 1 << 20} {
		look(text(dice, n))
		look(make([]byte, n))
		look(bytes.Repeat([]byte{255}, n))
	}
}

// P3.1: each part comes to the modulus, and just beyond it, and begins anew.
func TestSumTurns(t *testing.T) {
	ones := bytes.Repeat([]byte{1}, 65521)
	for _, c := range []struct {
		b    []byte
		want uint32
	}{
		{make([]byte, 65520), 65520<<16 | 1},
		{make([]byte, 65521), 1},
		{make([]byte, 65522), 1<<16 | 1},
		{ones[:65519], 65520<<16 | 65520}, // of n bytes of 1, a is 1 + n, and b is n + n (n + 1) / 2
		{ones[:65520], 65520 << 16},
		{ones, 1},
	} {
		if got := adler.Sum(c.b); got != c.want || got != more(1, c.b) {
			t.Errorf("Sum of %d bytes of %d: %X, not %X", len(c.b), c.b[0], got, c.want)
		}
	}
}

// P3.1: a and b begin with the parts of any number, each modulo 65521, whatever text follows, or none.
func TestMore(t *testing.T) {
	dice := rand.New(rand.NewSource(2))
	for _, s := range starts(dice) {
		want := s>>16%modulus<<16 | s&0xFFFF%modulus
		if got := adler.More(s, nil); got != want {
			t.Errorf("More(%X) of nothing: %X, not %X", s, got, want)
		}
		for n := range 40 {
			b := text(dice, n)
			if got, want := adler.More(s, b), more(s, b); got != want {
				t.Fatalf("More(%X, % x): %X, not %X", s, b, got, want)
			}
		}
	}
}

// P3.1: the greatest bytes, from the greatest parts on, about the lengths at which 32 bits would be outgrown.
func TestMoreFull(t *testing.T) {
	full := bytes.Repeat([]byte{255}, 4*5552+10)
	for _, s := range []uint32{65520<<16 | 65520, math.MaxUint32, 1} {
		for _, n := range []int{257, 5551, 5552, 5553, 5554, 2*5552 - 1, 2 * 5552, 2*5552 + 1, 3 * 5552, 4*5552 + 10} {
			if got, want := adler.More(s, full[:n]), more(s, full[:n]); got != want {
				t.Errorf("More(%X) of %d bytes of 255: %X, not %X", s, n, got, want)
			}
		}
	}
}

// P3.1: a sum is right, if both its parts are below 65521.
func TestRight(t *testing.T) {
	for _, c := range []struct {
		s    uint32
		want bool
	}{
		{0, true},
		{1, true},
		{0x11E60398, true},
		{65520, true},
		{65521, false},
		{65535, false},
		{65536, true},
		{65520 << 16, true},
		{65521 << 16, false},
		{65520<<16 | 65520, true},
		{65520<<16 | 65521, false},
		{65521<<16 | 65520, false},
		{65521<<16 | 65521, false},
		{math.MaxUint32, false},
		{math.MaxUint32 - 65535, false},
	} {
		if got := adler.Right(c.s); got != c.want {
			t.Errorf("Right(%X): %t", c.s, got)
		}
	}
	for part := range uint32(65536) {
		want := part < modulus
		if adler.Right(part) != want || adler.Right(part<<16) != want || adler.Right(part<<16|1) != want {
			t.Fatalf("Right of the part %d", part)
		}
	}
}

// P3.2: any numbers are put together as the words say, however many bytes the second text has; fewer than none are none.
func TestJoin(t *testing.T) {
	dice := rand.New(rand.NewSource(3))
	many := []int{math.MinInt, math.MinInt + 1, -65521, -2, -1, 0, 1, 2, 255, 5552, 65519, 65520, 65521, 65522, 2 * 65521, 2*65521 + 1,
		1<<31 - 1, 1 << 31, 1<<32 - 1, 1 << 32, 1 << 40, math.MaxInt - 1, math.MaxInt, dice.Int()}
	l := starts(dice)
	for _, s := range l {
		for _, u := range l {
			n := many[dice.Intn(len(many))]
			if got, want := adler.Join(s, u, n), both(s, u, n); got != want {
				t.Fatalf("Join(%X, %X, %d): %X, not %X", s, u, n, got, want)
			}
		}
	}
	for _, n := range many {
		for range 500 {
			s, u := dice.Uint32(), dice.Uint32()
			if got, want := adler.Join(s, u, n), both(s, u, n); got != want {
				t.Fatalf("Join(%X, %X, %d): %X, not %X", s, u, n, got, want)
			}
		}
		for _, s := range []uint32{0, math.MaxUint32, 65520<<16 | 65520, 65535<<16 | 65520, 65535 << 16} {
			if got, want := adler.Join(s, math.MaxUint32, n), both(s, math.MaxUint32, n); got != want {
				t.Errorf("Join(%X, FFFFFFFF, %d): %X, not %X", s, n, got, want)
			}
		}
		if got := adler.Join(5, 7, n); n < 0 && got != adler.Join(5, 7, 0) {
			t.Errorf("Join of %d bytes: %X", n, got)
		}
	}
}

// P3.2: the greatest product that there may be, beside the greatest parts.
func TestJoinFull(t *testing.T) {
	for _, s := range []uint32{65535 << 16, 65535<<16 | 65521, 65535<<16 | 65535} {
		if got, want := adler.Join(s, math.MaxUint32, 65520), both(s, math.MaxUint32, 65520); got != want {
			t.Errorf("Join(%X, FFFFFFFF, 65520): %X, not %X", s, got, want)
		}
	}
}

// P3.3: More of Sum, and Join, are Sum of both, wherever a text is cut; and all of these are right.
func TestCut(t *testing.T) {
	dice := rand.New(rand.NewSource(4))
	look := func(b []byte, cut int) {
		head, tail := b[:cut], b[cut:]
		want := adler.Sum(b)
		if got := adler.More(adler.Sum(head), tail); got != want {
			t.Fatalf("More at %d of %d bytes: %X, not %X", cut, len(b), got, want)
		}
		if got := adler.Join(adler.Sum(head), adler.Sum(tail), len(tail)); got != want {
			t.Fatalf("Join at %d of %d bytes: %X, not %X", cut, len(b), got, want)
		}
		if !adler.Right(want) {
			t.Fatalf("Sum of %d bytes isn't right: %X", len(b), want)
		}
	}
	for range 60 {
		b := text(dice, dice.Intn(200))
		for cut := range len(b) + 1 {
			look(b, cut)
		}
	}
	long := text(dice, 200000)
	for _, b := range [][]byte{long, make([]byte, len(long)), bytes.Repeat([]byte{255}, len(long))} {
		for _, cut := range []int{0, 1, 5552, 65520, 65521, 65522, len(b) - 2*65521, len(b) - 65521, len(b) - 65520, len(b) - 1, len(b)} {
			look(b, cut)
		}
	}
	if got := adler.Join(adler.Sum([]byte("Wiki")), adler.Sum([]byte("pedia")), 5); got != 0x11E60398 {
		t.Errorf("Join of Wiki and pedia: %X", got)
	}
}

// P3.3: what More and Join answer is right, even of what isn't.
func TestAnswersAreRight(t *testing.T) {
	dice := rand.New(rand.NewSource(5))
	for _, s := range append(starts(dice), math.MaxUint32) {
		for n := range 20 {
			if got := adler.More(s, text(dice, n)); !adler.Right(got) {
				t.Fatalf("More(%X): %X isn't right", s, got)
			}
			if got := adler.Join(s, dice.Uint32(), n); !adler.Right(got) {
				t.Fatalf("Join(%X): %X isn't right", s, got)
			}
		}
	}
}

// P3.3: texts of one length that are unlike in one byte alone have unlike sums.
func TestOneByte(t *testing.T) {
	dice := rand.New(rand.NewSource(6))
	for _, n := range []int{1, 2, 3, 9, 64} {
		b := text(dice, n)
		sum := adler.Sum(b)
		for at := range b {
			other := slices.Clone(b)
			for x := range 256 {
				other[at] = byte(x)
				if (adler.Sum(other) == sum) != (byte(x) == b[at]) {
					t.Fatalf("% x and % x: one sum", b, other)
				}
			}
		}
	}
	// Where the sums' second parts are the same, for the byte stands 65521 bytes ahead of the end, the first ones are not.
	b := text(dice, 70000)
	sum := adler.Sum(b)
	for _, at := range []int{0, 70000 - 65522, 70000 - 65521, 70000 - 65520, 69999} {
		for x := range 255 {
			b[at]++
			if adler.Sum(b) == sum {
				t.Fatalf("one sum, though the byte at %d is greater by %d", at, x+1)
			}
		}
		b[at]++
	}
}

// The rules that hold everywhere: what is handed in isn't changed, its spare room neither; an answer hangs on nothing else.
func TestArguments(t *testing.T) {
	dice := rand.New(rand.NewSource(7))
	room := text(dice, 12000)
	was := slices.Clone(room)
	for _, n := range []int{0, 1, 2, 3, 64, 5551, 5552, 5553, 11104, 11999} {
		b := room[:n]
		for range 3 {
			if got := adler.Sum(b); got != more(1, b) {
				t.Errorf("Sum of %d bytes: %X", n, got)
			}
			if got := adler.More(0xABCD1234, b); got != more(0xABCD1234, b) {
				t.Errorf("More of %d bytes: %X", n, got)
			}
		}
	}
	if !bytes.Equal(room, was) {
		t.Error("what was handed in is changed")
	}
	if adler.Sum(nil) != adler.Sum([]byte{}) || adler.More(5, nil) != adler.More(5, []byte{}) {
		t.Error("nil and empty are unlike")
	}
}
