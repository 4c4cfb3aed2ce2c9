package bitio

import (
	"slices"

	"theodolite/api"
)

// Reader reads bits.
type Reader struct {
	b  []byte
	at int // the bit that comes next
}

// New is a reader that stands at the first bit of b.
func New(b []byte) *Reader {
	return &Reader{b: slices.Clone(b)} // whoever changes b later doesn't change what is read
}

// Group reads the next c bits as a number, its lowest bit first; with an error nothing is read.
func (r *Reader) Group(c int) (uint32, api.Errno) {
	if !some(c) {
		return 0, api.ErrRange
	}
	if c > r.Left() {
		return 0, api.ErrEnd
	}
	var n uint32
	for k := range c {
		n |= r.get() << k
	}
	return n, api.OK
}

// Bit reads the next bit.
func (r *Reader) Bit() (uint32, api.Errno) {
	return r.Group(1)
}

// Align goes on to the next whole byte.
func (r *Reader) Align() {
	r.at = (r.at + inByte - 1) / inByte * inByte
}

// Text reads the next n bytes from the next whole byte on; with an error the reader stands there.
func (r *Reader) Text(n int) ([]byte, api.Errno) {
	r.Align()
	if n < 0 || n > r.Left()/inByte {
		return nil, api.ErrEnd
	}
	from := r.at / inByte
	r.at += inByte * n
	return slices.Clone(r.b[from : from+n]), api.OK
}

// At is the number of the bit that comes next.
func (r *Reader) At() int {
	return r.at
}

// Left is how many bits are left.
func (r *Reader) Left() int {
	return inByte*len(r.b) - r.at
}

// get reads a bit; there must be one.
func (r *Reader) get() uint32 {
	bit := r.b[r.at/inByte] >> (r.at % inByte) & 1
	r.at++
	return uint32(bit)
}
