package deflate_test

import (
	"bytes"
	"compress/flate"
	"io"
	"math"
	"math/rand"
	"slices"
	"strings"
	"testing"

	"theodolite/api"
	"theodolite/deflate"
	"theodolite/inflate"
)

// highs is a text of so many bytes whose codes have nine bits, none of which stands there again.
func highs(many int) []byte {
	b := make([]byte, many)
	for k := range b {
		b[k] = byte(144 + k%112)
	}
	return b
}

// texts are such as the promises are held against, short and long ones.
func texts() [][]byte {
	dice := rand.New(rand.NewSource(1))
	out := [][]byte{nil, {}, {0}, {'a'}, {143}, {144}, {255}, []byte("aaaaa"), []byte("abcabcd"), highs(29), highs(30), highs(31), highs(112)}
	for k := range 256 {
		out = append(out, []byte{byte(k)})
	}
	for size := range 300 {
		out = append(out, anyText(dice, size))
	}
	for range 40 {
		out = append(out, anyText(dice, dice.Intn(9000)))
	}
	for _, size := range []int{65534, 65535, 65536, 131069, 131070, 131071, 200000} {
		b := make([]byte, size)
		dice.Read(b)
		out = append(out, b, anyText(dice, size), make([]byte, size))
	}
	return out
}

// named is how a text is told of.
func named(b []byte) string {
	if len(b) > 60 {
		return string(b[:60]) + "..."
	}
	return string(b)
}

// P8.1: the chapter's examples, and lengths at the ends of what symbols stand for.
func TestSymbolExamples(t *testing.T) {
	for n, want := range map[int][3]int{
		3: {257, 0, 0}, 4: {258, 0, 0}, 10: {264, 0, 0}, 11: {265, 1, 0}, 12: {265, 1, 1}, 13: {266, 1, 0}, 130: {280, 4, 15},
		131: {281, 5, 0}, 227: {284, 5, 0}, 257: {284, 5, 30}, 258: {285, 0, 0}, 2: {}, 259: {}, 0: {}, -1: {},
	} {
		if symbol, bits, rest := deflate.Length(n); [3]int{symbol, bits, rest} != want {
			t.Errorf("Length(%d): %d, %d, %d", n, symbol, bits, rest)
		}
	}
	for n, want := range map[int][3]int{
		1: {0, 0, 0}, 4: {3, 0, 0}, 5: {4, 1, 0}, 6: {4, 1, 1}, 7: {5, 1, 0}, 24576: {28, 13, 8191}, 24577: {29, 13, 0},
		32768: {29, 13, 8191}, 0: {-1, 0, 0}, -1: {-1, 0, 0}, 32769: {-1, 0, 0},
	} {
		if symbol, bits, rest := deflate.Span(n); [3]int{symbol, bits, rest} != want {
			t.Errorf("Span(%d): %d, %d, %d", n, symbol, bits, rest)
		}
	}
}

// P8.1: each length and each distance has the symbol that RFC 1951 lists; other numbers have none.
func TestSymbols(t *testing.T) {
	numbers := []int{math.MinInt, math.MinInt + 1, -1 << 32, -32768, -258, 1 << 16, 1<<16 + 3, 1<<32 + 3, 1<<32 + 258, math.MaxInt - 1, math.MaxInt}
	for n := -5; n < 33000; n++ {
		numbers = append(numbers, n)
	}
	for _, c := range []struct {
		name string
		ask  func(int) (int, int, int)
		kind kind
		none int
	}{{"Length", deflate.Length, lengths(), 0}, {"Span", deflate.Span, distances(), -1}} {
		for _, n := range numbers {
			symbol, bits, rest, ok := c.kind.of(n)
			if !ok {
				symbol = c.none
			}
			if s, b, r := c.ask(n); s != symbol || b != bits || r != rest {
				t.Fatalf("%s(%d): %d, %d, %d, not %d, %d, %d", c.name, n, s, b, r, symbol, bits, rest)
			}
		}
	}
}

// P8.2, P8.3, P8.4: the chapter's examples, and streams of few bytes.
func TestExamples(t *testing.T) {
	for _, c := range []struct {
		name      string
		got, want []byte
	}{
		{"Fixed(a)", deflate.Fixed([]byte("a")), []byte{75, 4, 0}},
		{"Fixed(nothing)", deflate.Fixed(nil), []byte{3, 0}},
		{"Fixed(aaaaa)", deflate.Fixed([]byte("aaaaa")), []byte{75, 4, 1, 0}},
		{"Stored(a)", deflate.Stored([]byte("a")), []byte{1, 1, 0, 254, 255, 97}},
		{"Stored(nothing)", deflate.Stored(nil), []byte{1, 0, 0, 255, 255}},
		{"Best(nothing)", deflate.Best(nil), []byte{3, 0}},
		{"Best(a)", deflate.Best([]byte("a")), []byte{75, 4, 0}},
	} {
		if !bytes.Equal(c.got, c.want) {
			t.Errorf("%s: %d, not %d", c.name, c.got, c.want)
		}
	}
}

// P8.2: a text's tokens, in order, by the codes that RFC 1951 lists, bit by bit.
func TestFixed(t *testing.T) {
	for _, b := range texts() {
		if got, want := deflate.Fixed(b), fixed(b); !bytes.Equal(got, want) {
			t.Fatalf("%q: % x, not % x", named(b), got[:min(len(got), 60)], want[:min(len(want), 60)])
		}
	}
}

// P8.2: each length from 3 to 258 is told again, and distances of each symbol at both its ends.
func TestFixedNumbers(t *testing.T) {
	for n := 3; n <= 258; n++ {
		b := []byte(strings.Repeat("a", 1+n) + "b")
		if got, want := deflate.Fixed(b), fixed(b); !bytes.Equal(got, want) {
			t.Fatalf("%d told again: % x, not % x", n, got, want)
		}
	}
	far := []int{32768, 32767}
	for _, least := range distances().least {
		if least > 8 {
			far = append(far, least, least-1)
		}
	}
	for _, n := range far {
		b := []byte("xyzw" + strings.Repeat("-", n-4) + "xyzw")
		if got, want := deflate.Fixed(b), fixed(b); !bytes.Equal(got, want) {
			t.Fatalf("told again from %d back: % x, not % x", n, got, want)
		}
	}
}

// P8.3: 65535 bytes in each stored block, the last one with what is left, which is none of an empty text alone; bits to align are 0.
func TestStored(t *testing.T) {
	for _, b := range texts() {
		if got, want := deflate.Stored(b), stored(b); !bytes.Equal(got, want) {
			t.Fatalf("%q, %d bytes: % x, not % x", named(b), len(b), got[:min(len(got), 60)], want[:min(len(want), 60)])
		}
	}
	for size, blocks := range map[int]int{0: 1, 1: 1, 65534: 1, 65535: 1, 65536: 2, 131070: 2, 131071: 3, 196605: 3} {
		got := deflate.Stored(bytes.Repeat([]byte{7}, size))
		if len(got) != size+5*blocks {
			t.Errorf("%d bytes stored: %d", size, len(got))
			continue
		}
		for k := range blocks {
			piece := got[k*65540:]
			many, last := 65535, byte(0)
			if k == blocks-1 {
				many, last = size-k*65535, 1
			}
			if want := []byte{last, byte(many), byte(many >> 8), 255 - byte(many), 255 - byte(many>>8)}; !bytes.Equal(piece[:5], want) {
				t.Errorf("%d bytes stored: block %d begins %d, not %d", size, k, piece[:5], want)
			}
		}
	}
}

// P8.4: stored blocks where they have fewer bytes; the fixed block where it has fewer, or as many.
func TestBest(t *testing.T) {
	for _, b := range texts() {
		want := deflate.Fixed(b)
		if x := deflate.Stored(b); len(x) < len(want) {
			want = x
		}
		if got := deflate.Best(b); !bytes.Equal(got, want) {
			t.Fatalf("%q: % x", named(b), got[:min(len(got), 60)])
		}
	}
	for many, held := range map[int]int{22: -1, 23: 0, 30: 0, 31: 1} {
		b := highs(many)
		x, y, best := deflate.Fixed(b), deflate.Stored(b), deflate.Best(b)
		if held == 1 && !bytes.Equal(best, y) || held != 1 && !bytes.Equal(best, x) {
			t.Errorf("%d bytes: % x", many, best)
		}
		if n := len(x) - len(y); n != held {
			t.Errorf("%d bytes: fixed ones are %d more, not %d", many, n, held)
		}
	}
}

// P8.5: what is written is read again, all its bytes and none behind them, by layer 6 and by another reader; Best has few bytes more than the text.
func TestRead(t *testing.T) {
	dice := rand.New(rand.NewSource(2))
	noise := make([]byte, 1<<20)
	dice.Read(noise)
	long := append(texts(), noise, anyText(dice, 1<<20), make([]byte, 1<<20), make([]byte, 1<<20-1))
	for _, b := range long {
		best := deflate.Best(b)
		if len(best) > len(b)+5*(len(b)/65535)+5 {
			t.Errorf("%q: %d bytes of %d", named(b), len(best), len(b))
		}
		for name, z := range map[string][]byte{"Fixed": deflate.Fixed(b), "Stored": deflate.Stored(b), "Best": best} {
			for _, behind := range []string{"", "\x00", "\xff\xff\xff"} {
				text, n, e := inflate.Read(append(slices.Clip(z), behind...), len(b))
				if !bytes.Equal(text, b) || n != len(z) || e != api.OK {
					t.Fatalf("%s of %q is read: %d, %d of %d bytes", name, named(b), e, n, len(z))
				}
			}
			got, err := io.ReadAll(flate.NewReader(bytes.NewReader(z)))
			if err != nil || !bytes.Equal(got, b) {
				t.Fatalf("%s of %q by another reader: %v", name, named(b), err)
			}
		}
	}
}

// P8.5: a text beyond what layer 6 reads is written all the same.
func TestBeyondLimit(t *testing.T) {
	b := anyText(rand.New(rand.NewSource(3)), 1<<20+70000)
	for name, z := range map[string][]byte{"Fixed": deflate.Fixed(b), "Stored": deflate.Stored(b), "Best": deflate.Best(b)} {
		got, err := io.ReadAll(flate.NewReader(bytes.NewReader(z)))
		if err != nil || !bytes.Equal(got, b) {
			t.Errorf("%s: %v", name, err)
		}
		if text, n, e := inflate.Read(z, 1<<20); e != api.ErrLimit || len(text) != 0 || n != 0 {
			t.Errorf("%s is read: %d", name, e)
		}
	}
}

// The rules that hold everywhere: what is handed in is neither changed nor kept, an answer is new memory, and always the same; nil is empty.
func TestArguments(t *testing.T) {
	for name, f := range map[string]func([]byte) []byte{"Fixed": deflate.Fixed, "Stored": deflate.Stored, "Best": deflate.Best} {
		if !bytes.Equal(f(nil), f([]byte{})) {
			t.Errorf("%s: nil isn't empty", name)
		}
		for _, text := range []string{"", "a", "abcabcabcabc", string(highs(100))} {
			room := append([]byte(text), "spare"...)
			b := room[:len(text)]
			first := f(b)
			was := slices.Clone(first)
			if string(room) != text+"spare" {
				t.Fatalf("%s: what was handed in is changed: %q", name, room)
			}
			clear(room)
			if !bytes.Equal(first, was) {
				t.Errorf("%s: an answer is what was handed in", name)
			}
			clear(first[:cap(first)])
			if again := f([]byte(text)); !bytes.Equal(again, was) {
				t.Errorf("%s of %q: % x, not % x", name, text, again, was)
			}
		}
	}
}
