package hdrwire

import (
	"slices"
	"strings"

	"theodolite/api"
	"theodolite/hdr"
	"theodolite/wire"
	"theodolite/zlib"
)

const (
	countLetter = "n"                // how each count is written
	ratio       = 0x3FF0000000000000 // the published form's ratio of integers to floating point numbers: always 1
	atOnce      = 64                 // letters of a pattern at most
)

// plain is the plain form of a histogram.
func plain(x *hdr.Hist) []byte {
	h, behind := x.Shape(), counts(numbers(x.Pairs()))
	head := put(headPattern, plainMark, uint64(len(behind)), 0, uint64(h.Digits), uint64(h.Lowest), uint64(x.Reach()), ratio)
	return slices.Concat(head, behind)
}

// packed is the compressed form of what this is the plain one of.
func packed(text []byte) []byte {
	z := zlib.Pack(text)
	return slices.Concat(put(packPattern, packedMark, uint64(len(z))), z)
}

// numbers are what stands behind the head: the counts of all cells up to the last pair's.
func numbers(l []api.Pair) []uint64 {
	if len(l) == 0 {
		return zeros(nil, 1)
	}
	var out []uint64
	next := 0
	for _, p := range l {
		out = append(zeros(out, p.Key-next), p.N)
		next = p.Key + 1
	}
	return out
}

// zeros puts so many zeros behind the numbers l, as they are written.
func zeros(l []uint64, many int) []uint64 {
	switch many {
	case 0:
		return l
	case 1:
		return append(l, 0)
	}
	return append(l, uint64(-many))
}

// counts are numbers as bytes, as many at once as a pattern can have.
func counts(l []uint64) []byte {
	var b []byte
	for some := range slices.Chunk(l, atOnce) {
		b = append(b, put(strings.Repeat(countLetter, len(some)), some...)...)
	}
	return b
}

// put writes numbers by a pattern that has room for them: a form has less than 2^32 bytes, and so have its lengths.
func put(pattern string, l ...uint64) []byte {
	b, _ := wire.Put(pattern, l)
	return b
}
