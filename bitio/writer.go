package bitio

import (
	"slices"

	"theodolite/api"
)

// Writer writes bits; the zero one has written none.
type Writer struct {
	b    []byte // as few as hold the bits; what isn't written of the last one is zeros
	many int    // bits that were written
}

// Group writes n, a number of c bits, its lowest bit first.
func (w *Writer) Group(n uint32, c int) api.Errno {
	if !fits(n, c) {
		return api.ErrRange
	}
	return w.Code(Turn(n, c), c)
}

// Code writes n, a number of c bits, its highest bit first.
func (w *Writer) Code(n uint32, c int) api.Errno {
	if !fits(n, c) {
		return api.ErrRange
	}
	fromHighest(n, c, w.put)
	return api.OK
}

// Align writes zeros up to the next whole byte.
func (w *Writer) Align() {
	w.many = inByte * len(w.b)
}

// Text writes the bytes of b behind zeros up to a whole byte.
func (w *Writer) Text(b []byte) {
	w.b = append(w.b, b...)
	w.Align()
}

// Len is how many bits were written.
func (w *Writer) Len() int {
	return w.many
}

// Bytes are those that the bits make, the last one filled up with zeros.
func (w *Writer) Bytes() []byte {
	return slices.Clone(w.b)
}

// put writes one bit.
func (w *Writer) put(bit uint32) {
	place := w.many % inByte
	if place == 0 {
		w.b = append(w.b, 0)
	}
	w.b[w.many/inByte] |= byte(bit << place)
	w.many++
}

// fromHighest calls put with the lowest c bits of n, the highest one of them first.
func fromHighest(n uint32, c int, put func(bit uint32)) {
	for k := range c {
		put(n >> (c - 1 - k) & 1)
	}
}
