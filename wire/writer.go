package wire

import "math/bits"

// writer gathers the bytes of numbers.
type writer struct{ b []byte }

// low writes the lowest bytes of n, as many as size says, the lowest one first.
func (w *writer) low(n uint64, size int) {
	for i := range size {
		w.b = append(w.b, byte(n>>(8*i)))
	}
}

// high writes the lowest bytes of n, as many as size says, the highest one first.
func (w *writer) high(n uint64, size int) {
	w.low(turned(n, size), size)
}

// few writes n in as few bytes as may be, but most at most.
func (w *writer) few(n uint64, most int) {
	for range most - 1 {
		if n < 128 {
			break
		}
		w.b = append(w.b, byte(n)|128)
		n >>= 7
	}
	w.b = append(w.b, byte(n))
}

// signed writes n, taken as a number with a sign, in as few bytes as may be, but most at most.
func (w *writer) signed(n uint64, most int) {
	w.few(Sign(int64(n)), most)
}

// turned is the number that has the lowest bytes of n, as many as size says, in the other order.
func turned(n uint64, size int) uint64 {
	return bits.ReverseBytes64(n) >> (64 - 8*size)
}
