package hdrwire

import (
	"bytes"

	"theodolite/api"
	"theodolite/hdr"
	"theodolite/hdrmap"
	"theodolite/wire"
	"theodolite/zlib"
)

// gaveUp is what a reading that can't go on is given up with.
type gaveUp struct{}

// demand gives the reading up, unless all is well.
func demand(well bool) {
	if !well {
		panic(gaveUp{})
	}
}

// told is the histogram that b tells by a form, or that there is none.
func told(b []byte, read func(b []byte) *hdr.Hist) (x *hdr.Hist, e api.Errno) {
	defer func() {
		switch p := recover().(type) {
		case nil:
		case gaveUp:
			x, e = nil, api.ErrBytes
		default:
			panic(p)
		}
	}()
	return read(b), api.OK
}

// ofPlain is the histogram whose plain form b is.
func ofPlain(b []byte) *hdr.Hist {
	l, n, e := wire.Get(headPattern, b)
	demand(e == api.OK)
	h := api.Hdr{Lowest: int64(l[4]), Highest: int64(l[5]), Digits: int(l[3])}
	m, e := hdrmap.New(h)
	demand(e == api.OK)
	buckets := m.Buckets(h.Highest)
	x, e := hdr.Load(h, false, buckets, pairs(wire.New(b[n:]), m.Cells(buckets)))
	demand(e == api.OK)
	// One form alone is x's: all else that b could say otherwise, in its head or of zeros, is refused by that.
	demand(bytes.Equal(plain(x), b))
	return x
}

// ofPacked is the histogram whose compressed form b is.
func ofPacked(b []byte) *hdr.Hist {
	_, n, e := wire.Get(packPattern, b)
	demand(e == api.OK)
	text, e := zlib.Open(b[n:], maxText)
	demand(e == api.OK)
	x := ofPlain(text)
	// A text may be compressed in many ways, one of which is zlib's Pack.
	demand(bytes.Equal(packed(text), b))
	return x
}

// pairs are the cells that are counted by the numbers that r goes through, of so many cells.
func pairs(r *wire.Reader, cells int) []api.Pair {
	var l []api.Pair
	for at := 0; r.Left() > 0; {
		n := next(r)
		// How many cells it is of is reckoned with below 0, as zeros are told: -2^63 has no contrary.
		many := min(n, -1)
		demand(many >= int64(at-cells))
		if n > 0 {
			l = append(l, api.Pair{Key: at, N: uint64(n)})
		}
		at -= int(many)
	}
	return l
}

// next is the next number behind the head.
func next(r *wire.Reader) int64 {
	n, e := r.Next(countLetter[0])
	demand(e == api.OK)
	return int64(n)
}
