package zlib_test

import (
	"bytes"
	"io"
	"math"
	"math/rand"
	"slices"
	"testing"

	stock "compress/zlib"

	"theodolite/api"
	"theodolite/deflate"
	"theodolite/zlib"
)

const most = 1 << 20 // the greatest limit

// P9.1 to P9.3: the chapter's examples.
func TestExamples(t *testing.T) {
	z := zlib.Pack([]byte("a"))
	if !bytes.Equal(z, []byte{120, 1, 75, 4, 0, 0, 98, 0, 98}) {
		t.Errorf("Pack(a): %d", z)
	}
	for _, c := range []struct {
		b     []byte
		limit int
		text  string
		e     api.Errno
	}{
		{z, 1, "a", api.OK}, {z, 100, "a", api.OK}, {z, most, "a", api.OK},
		{append(slices.Clip(z), 0), 1, "", api.ErrMore}, {z, 0, "", api.ErrLimit},
	} {
		if text, e := zlib.Open(c.b, c.limit); string(text) != c.text || e != c.e {
			t.Errorf("Open(%d, %d): %q, %d", c.b, c.limit, text, e)
		}
	}
	if !zlib.Head([]byte{120, 156}) || zlib.Head([]byte{120, 0}) {
		t.Error("Head")
	}
}

// P9.1: the head 120 1, the shorter one of two streams, the sum with its highest byte first; another reader reads it.
func TestPack(t *testing.T) {
	for _, b := range texts() {
		got := zlib.Pack(b)
		if want := wrapped([]byte{120, 1}, deflate.Best(b), sum(b)); !bytes.Equal(got, want) {
			t.Fatalf("%q: % x, not % x", named(b), got[:min(len(got), 60)], want[:min(len(want), 60)])
		}
		r, err := stock.NewReader(bytes.NewReader(got))
		if err != nil {
			t.Fatalf("%q by another reader: %v", named(b), err)
		}
		if text, err := io.ReadAll(r); err != nil || !bytes.Equal(text, b) {
			t.Fatalf("%q by another reader: %v", named(b), err)
		}
	}
}

// P9.4: what is packed is opened, with the least limit that will do and with the greatest one; with one below it isn't.
func TestOpenOfPack(t *testing.T) {
	dice := rand.New(rand.NewSource(2))
	noise := make([]byte, most)
	dice.Read(noise)
	for _, b := range append(texts(), make([]byte, most), make([]byte, most-1), noise, anyText(dice, most)) {
		z := zlib.Pack(b)
		for _, limit := range []int{len(b), most} {
			if text, e := zlib.Open(z, limit); !bytes.Equal(text, b) || e != api.OK {
				t.Fatalf("%q, %d bytes: %d, %d bytes", named(b), len(b), e, len(text))
			}
		}
		if len(b) > 0 {
			if text, e := zlib.Open(z, len(b)-1); len(text) != 0 || e != api.ErrLimit {
				t.Errorf("%q, %d bytes, with a limit below: %d", named(b), len(b), e)
			}
		}
	}
}

// P9.1, P9.2: a text beyond the greatest limit is packed all the same, and not opened.
func TestBeyondLimit(t *testing.T) {
	b := make([]byte, most+1)
	z := zlib.Pack(b)
	if want := wrapped([]byte{120, 1}, deflate.Best(b), sum(b)); !bytes.Equal(z, want) {
		t.Error("it is packed another way")
	}
	if text, e := zlib.Open(z, most); len(text) != 0 || e != api.ErrLimit {
		t.Errorf("it is opened: %d", e)
	}
}

// P9.2: whatever the right head, and however the stream is written.
func TestOpenOthers(t *testing.T) {
	for _, b := range texts() {
		for k, s := range streams(b) {
			z := wrapped([]byte{120, 156}, s, sum(b))
			if text, e := zlib.Open(z, len(b)); !bytes.Equal(text, b) || e != api.OK {
				t.Fatalf("stream %d of %q: %d", k, named(b), e)
			}
		}
	}
	for level := stock.HuffmanOnly; level <= stock.BestCompression; level++ {
		b := anyText(rand.New(rand.NewSource(int64(level))), 70000)
		var z bytes.Buffer
		w, err := stock.NewWriterLevel(&z, level)
		if err != nil {
			t.Fatal(err)
		}
		w.Write(b[:30000])
		w.Flush()
		w.Write(b[30000:])
		w.Close()
		if text, e := zlib.Open(z.Bytes(), len(b)); !bytes.Equal(text, b) || e != api.OK {
			t.Errorf("another writer's level %d: %d", level, e)
		}
	}
	l := heads()
	if len(l) != 32 {
		t.Fatalf("%d right heads", len(l))
	}
	for _, head := range l {
		if text, e := zlib.Open(wrapped(head, []byte{75, 4, 0, 0, 98, 0, 98}), 1); string(text) != "a" || e != api.OK {
			t.Errorf("head %d: %d", head, e)
		}
	}
}

// P9.2: each error, and which comes first where several apply.
func TestErrors(t *testing.T) {
	own, a := []byte{120, 1}, []byte{0, 98, 0, 98}
	fixed := []byte{75, 4, 0}
	broken := map[api.Errno][]byte{
		api.ErrEnd:    {75},
		api.ErrBlock:  {7},
		api.ErrStored: {1, 1, 0, 254, 254, 97},
		api.ErrCode:   {5, 31, 0, 0, 0, 0, 0, 0},
		api.ErrBack:   {3, 2, 0, 0},
		api.ErrLimit:  deflate.Fixed([]byte("aaaa")),
	}
	type try struct {
		name  string
		b     []byte
		limit int
		e     api.Errno
	}
	tries := []try{
		{"nothing", nil, 0, api.ErrEnd},
		{"a byte of a head", []byte{120}, 3, api.ErrEnd},
		{"a byte of no head", []byte{0}, 3, api.ErrEnd},
		{"no head, nothing behind", []byte{120, 0}, 3, api.ErrHead},
		{"no head, no stream", []byte{0, 0, 7}, 3, api.ErrHead},
		{"no head, all else right", wrapped([]byte{120, 0}, fixed, a), 3, api.ErrHead},
		{"a head with a text beforehand", wrapped([]byte{120, 32}, fixed, a), 3, api.ErrHead},
		{"a head of another method", wrapped([]byte{119, 9}, fixed, a), 3, api.ErrHead},
		{"a head with too great a size", wrapped([]byte{136, 28}, fixed, a), 3, api.ErrHead},
		{"a head turned round", wrapped([]byte{1, 120}, fixed, a), 3, api.ErrHead},
		{"a head alone", own, 3, api.ErrEnd},
		{"no sum", wrapped(own, fixed), 3, api.ErrEnd},
		{"one byte of the sum", wrapped(own, fixed, a[:1]), 3, api.ErrEnd},
		{"three bytes of the sum", wrapped(own, fixed, a[:3]), 3, api.ErrEnd},
		{"three bytes that aren't the sum's", wrapped(own, fixed, []byte{9, 9, 9}), 3, api.ErrEnd},
		{"another sum", wrapped(own, fixed, []byte{0, 98, 0, 99}), 3, api.ErrSum},
		{"the sum turned round", wrapped(own, fixed, []byte{98, 0, 98, 0}), 3, api.ErrSum},
		{"the sum's parts turned round", wrapped(own, deflate.Fixed([]byte("ab")), []byte{0, 196, 1, 38}), 3, api.ErrSum},
		{"the sum one byte on", wrapped(own, fixed, []byte{0}, a), 3, api.ErrSum},
		{"another sum, more behind", wrapped(own, fixed, []byte{0, 98, 0, 99, 5}), 3, api.ErrSum},
		{"a byte more", wrapped(own, fixed, a, []byte{0}), 3, api.ErrMore},
		{"the same again", wrapped(own, fixed, a, own, fixed, a), 3, api.ErrMore},
		{"the sum again", wrapped(own, fixed, a, a), 3, api.ErrMore},
		{"more told than may be, another sum", wrapped(own, fixed, []byte{9}), 0, api.ErrLimit},
	}
	for _, limit := range []int{-1, most + 1, math.MinInt, math.MaxInt, 1 << 32, -1 << 32} {
		for _, b := range [][]byte{nil, {120}, {0, 0}, wrapped(own, fixed, a), wrapped(own, []byte{7}), wrapped(own, fixed, a, a)} {
			tries = append(tries, try{"no limit", b, limit, api.ErrArg})
		}
	}
	for e, s := range broken {
		tries = append(tries,
			try{"no stream", wrapped(own, s), 3, e},
			try{"no head, no stream", wrapped([]byte{0, 0}, s), 3, api.ErrHead})
		if e != api.ErrEnd {
			tries = append(tries, try{"no stream, more behind", wrapped(own, s, a, a), 3, e})
		}
	}
	for _, c := range tries {
		if text, e := zlib.Open(c.b, c.limit); len(text) != 0 || e != c.e {
			t.Errorf("%s (% x, limit %d): %d and %q, not %d", c.name, c.b, c.limit, e, text, c.e)
		}
	}
}

// P9.4: a wrapped stream isn't opened, one byte of whose sum is another one.
func TestSum(t *testing.T) {
	l := [][]byte{nil, []byte("a"), []byte("Wikipedia"), zeroPart(), anyText(rand.New(rand.NewSource(3)), 3000)}
	for _, b := range l {
		z := zlib.Pack(b)
		for at := len(z) - 4; at < len(z); at++ {
			for turn := 1; turn < 256; turn++ {
				wrong := slices.Clone(z)
				wrong[at] ^= byte(turn)
				if text, e := zlib.Open(wrong, len(b)); len(text) != 0 || e != api.ErrSum {
					t.Fatalf("%q, %d at %d: %d", named(b), wrong[at], at, e)
				}
			}
		}
	}
	// A sum that isn't right is none, though its part of 65521 is that of 0.
	b := zeroPart()
	s := sum(b)
	if s[2] != 0 || s[3] != 0 {
		t.Fatalf("%d", s)
	}
	if _, e := zlib.Open(wrapped([]byte{120, 1}, deflate.Best(b), []byte{s[0], s[1], 255, 241}), len(b)); e != api.ErrSum {
		t.Errorf("a sum that isn't right: %d", e)
	}
}

// P9.2: what isn't a wrapped stream any more, bit by bit and byte by byte, has the error that its words tell.
func TestWrong(t *testing.T) {
	dice := rand.New(rand.NewSource(4))
	hold := func(b []byte, limit int) {
		t.Helper()
		text, e := zlib.Open(b, limit)
		if want, f := opened(b, limit); e != f || !bytes.Equal(text, want) {
			t.Fatalf("Open(% x, %d): %d and %q, not %d and %q", b, limit, e, named(text), f, named(want))
		}
	}
	for range 60 {
		b := anyText(dice, dice.Intn(120))
		for _, s := range streams(b) {
			z := wrapped(heads()[dice.Intn(32)], s, sum(b))
			for n := range len(z) + 1 {
				hold(z[:n], len(b))
				hold(wrapped(z[:n], []byte{byte(dice.Intn(256))}, z[n:]), len(b)+1)
			}
			for bit := range 8 * len(z) {
				wrong := slices.Clone(z)
				wrong[bit/8] ^= 1 << (bit % 8)
				hold(wrong, len(b)+dice.Intn(300))
			}
		}
	}
	for range 20000 {
		b := make([]byte, dice.Intn(12))
		dice.Read(b)
		hold(b, dice.Intn(30)-2)
		hold(wrapped([]byte{120, 1}, b), dice.Intn(30))
		hold(wrapped([]byte{120, 1, 3, 0}, b), dice.Intn(2))
	}
}

// P9.3: all heads, whatever stands behind; fewer than two bytes aren't one.
func TestHead(t *testing.T) {
	for k := range 1 << 16 {
		x, y := byte(k>>8), byte(k)
		for _, behind := range []string{"", "\x00", "abc"} {
			if got := zlib.Head(append([]byte{x, y}, behind...)); got != right(x, y) {
				t.Fatalf("Head(%d %d): %v", x, y, got)
			}
		}
	}
	if zlib.Head(nil) || zlib.Head([]byte{}) {
		t.Error("nothing is a head")
	}
	for k := range 256 {
		if zlib.Head([]byte{byte(k)}) || zlib.Head([]byte{byte(k), 1}[:1]) {
			t.Errorf("%d is a head", k)
		}
	}
	for _, c := range []struct {
		x, y byte
		is   bool
	}{
		{120, 1, true}, {120, 94, true}, {120, 156, true}, {120, 218, true}, {8, 29, true}, {104, 5, true},
		{120, 2, false}, {120, 32, false}, {120, 187, false}, {136, 28, false}, {248, 0, false}, {119, 9, false}, {121, 24, false}, {0, 0, false},
	} {
		if got := zlib.Head([]byte{c.x, c.y}); got != c.is {
			t.Errorf("Head(%d %d): %v", c.x, c.y, got)
		}
	}
}

// The rules that hold everywhere: what is handed in is neither changed nor kept, its spare room neither; an answer is new memory, and always the same; nil is empty.
func TestArguments(t *testing.T) {
	open := func(b []byte) []byte {
		text, _ := zlib.Open(b, most)
		return text
	}
	stored := wrapped([]byte{120, 1}, deflate.Stored([]byte("abc")), sum([]byte("abc")))
	for name, c := range map[string]struct {
		f func([]byte) []byte
		l [][]byte
	}{
		"Pack": {zlib.Pack, [][]byte{nil, []byte("a"), []byte("abcabcabcabc"), bytes.Repeat([]byte{200}, 100)}},
		"Open": {open, [][]byte{nil, {0}, zlib.Pack(nil), zlib.Pack([]byte("a")), stored}},
	} {
		for _, b := range c.l {
			room := append(slices.Clone(b), "spare"...)
			was := slices.Clone(room)
			first := c.f(room[:len(b)])
			told := slices.Clone(first)
			if !bytes.Equal(room, was) {
				t.Fatalf("%s: what was handed in is changed: % x", name, room)
			}
			second := c.f(room[:len(b)])
			clear(room)
			clear(second[:cap(second)])
			if !bytes.Equal(first, told) {
				t.Errorf("%s of % x: its answer is changed", name, b)
			}
			clear(first[:cap(first)])
			if again := c.f(b); !bytes.Equal(again, told) {
				t.Errorf("%s of % x: % x, not % x", name, b, again, told)
			}
		}
	}
	if !bytes.Equal(zlib.Pack(nil), zlib.Pack([]byte{})) {
		t.Error("nil isn't empty")
	}
	for _, b := range [][]byte{nil, {}} {
		if text, e := zlib.Open(b, 0); len(text) != 0 || e != api.ErrEnd {
			t.Errorf("Open of nothing: %d", e)
		}
	}
	b := zlib.Pack([]byte("a"))
	room := slices.Clone(b)
	zlib.Head(room[:2])
	if !bytes.Equal(b, room) {
		t.Errorf("Head: what was handed in is changed: % x", room)
	}
}
