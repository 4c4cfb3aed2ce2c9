package zlib_test

import (
	"bytes"
	"math/rand"
	"strings"

	stock "compress/zlib"

	"theodolite/api"
	"theodolite/deflate"
	"theodolite/inflate"
)

// sum is the sum of a text, by its words: byte by byte, in four bytes, the highest first.
func sum(text []byte) []byte {
	a, b := 1, 0
	for _, x := range text {
		a = (a + int(x)) % 65521
		b = (b + a) % 65521
	}
	return []byte{byte(b >> 8), byte(b), byte(a >> 8), byte(a)}
}

// right tells whether two bytes are a right head, by its words.
func right(x, y byte) bool {
	if x%16 != 8 || x/16 > 7 {
		return false
	}
	if y/32%2 == 1 {
		return false
	}
	return (256*int(x)+int(y))%31 == 0
}

// heads are all that are right.
func heads() [][]byte {
	var out [][]byte
	for k := range 1 << 16 {
		if x, y := byte(k>>8), byte(k); right(x, y) {
			out = append(out, []byte{x, y})
		}
	}
	return out
}

// opened is what P9.2's words make of b, error by error.
func opened(b []byte, limit int) ([]byte, api.Errno) {
	if limit < 0 || limit > 1048576 {
		return nil, api.ErrArg
	}
	if len(b) < 2 {
		return nil, api.ErrEnd
	}
	if !right(b[0], b[1]) {
		return nil, api.ErrHead
	}
	text, n, e := inflate.Read(b[2:], limit)
	if e != api.OK {
		return nil, e
	}
	behind := b[2+n:]
	if len(behind) < 4 {
		return nil, api.ErrEnd
	}
	if !bytes.HasPrefix(behind, sum(text)) {
		return nil, api.ErrSum
	}
	if len(behind) > 4 {
		return nil, api.ErrMore
	}
	return text, api.OK
}

// wrapped are these bytes, one behind the other.
func wrapped(pieces ...[]byte) []byte {
	return bytes.Join(pieces, nil)
}

// anyText is one of so many bytes: any ones, few letters, runs, and pieces that stand again.
func anyText(dice *rand.Rand, size int) []byte {
	var b []byte
	for len(b) < size {
		switch dice.Intn(4) {
		case 0:
			for range dice.Intn(40) {
				b = append(b, byte(dice.Intn(256)))
			}
		case 1:
			for range dice.Intn(40) {
				b = append(b, 'a'+byte(dice.Intn(3)))
			}
		case 2:
			b = append(b, strings.Repeat(string(rune('a'+dice.Intn(26))), dice.Intn(600))...)
		case 3:
			if from := dice.Intn(len(b) + 1); from < len(b) {
				b = append(b, b[from:from+dice.Intn(min(700, len(b)-from))]...)
			}
		}
	}
	return b[:size]
}

// texts are such as the promises are held against, short and long ones.
func texts() [][]byte {
	dice := rand.New(rand.NewSource(1))
	out := [][]byte{nil, {}, {0}, {255}, []byte("a"), []byte("aaaaa"), []byte("Wikipedia"), zeroPart()}
	for size := range 200 {
		out = append(out, anyText(dice, size))
	}
	for range 20 {
		out = append(out, anyText(dice, dice.Intn(9000)))
	}
	for _, size := range []int{5552, 5553, 65535, 65536, 131071} {
		noise := make([]byte, size)
		dice.Read(noise)
		out = append(out, noise, anyText(dice, size), make([]byte, size), bytes.Repeat([]byte{255}, size))
	}
	return out
}

// zeroPart is a text whose sum's lower part is 0, so that 65521 there is the same modulo 65521.
func zeroPart() []byte {
	return append(bytes.Repeat([]byte{255}, 256), 240)
}

// streams are of one text: a fixed block, stored ones, and described ones by another writer.
func streams(text []byte) [][]byte {
	var z bytes.Buffer
	w, err := stock.NewWriterLevel(&z, stock.BestCompression)
	if err != nil {
		panic(err)
	}
	w.Write(text)
	w.Close()
	described := z.Bytes()[2 : z.Len()-4]
	return [][]byte{deflate.Fixed(text), deflate.Stored(text), described}
}

// named is how bytes are told of.
func named(b []byte) string {
	if len(b) > 40 {
		return string(b[:40]) + "..."
	}
	return string(b)
}
