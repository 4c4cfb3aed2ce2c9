package wire

import (
	"slices"

	"theodolite/api"
)

// Reader reads numbers and texts from bytes, one behind the other.
type Reader struct {
	b  []byte
	at int
}

// New is a reader that stands at the beginning of b.
func New(b []byte) *Reader {
	return &Reader{b: slices.Clone(b)} // whoever changes b later doesn't change what is read
}

// Next reads the next number by a letter; with an error nothing is read.
func (r *Reader) Next(letter byte) (uint64, api.Errno) {
	f, ok := formOf(letter)
	if !ok {
		return 0, api.ErrSpec
	}
	from := r.at
	n, e := f.get(r, f.most)
	if e != api.OK {
		r.at = from
	}
	return n, e
}

// Text reads the next n bytes; with an error nothing is read.
func (r *Reader) Text(n int) ([]byte, api.Errno) {
	if n < 0 || n > r.Left() {
		return nil, api.ErrEnd
	}
	from := r.at
	r.at += n
	return slices.Clone(r.b[from:r.at]), api.OK
}

// Left is how many bytes are left.
func (r *Reader) Left() int {
	return len(r.b) - r.at
}

// At is how many bytes were read.
func (r *Reader) At() int {
	return r.at
}

// step reads one byte; false, if none is left.
func (r *Reader) step() (byte, bool) {
	if r.Left() == 0 {
		return 0, false
	}
	c := r.b[r.at]
	r.at++
	return c, true
}

// low reads a number of a fixed size, its lowest byte first.
func (r *Reader) low(size int) (uint64, api.Errno) {
	return fixed(size, r.step)
}

// high reads a number of a fixed size, its highest byte first.
func (r *Reader) high(size int) (uint64, api.Errno) {
	n, e := fixed(size, r.step)
	return turned(n, size), e
}

// few reads a number that was written in as few bytes as may be, but most at most.
func (r *Reader) few(most int) (uint64, api.Errno) {
	return shortest(most, r.step)
}

// signed reads a number with a sign that was written in as few bytes as may be, but most at most.
func (r *Reader) signed(most int) (uint64, api.Errno) {
	n, e := shortest(most, r.step)
	return uint64(Unsign(n)), e
}

// fixed puts as many bytes as size says together, the lowest one first.
func fixed(size int, step func() (byte, bool)) (uint64, api.Errno) {
	var n uint64
	for i := range size {
		c, ok := step()
		if !ok {
			return 0, api.ErrEnd
		}
		n |= uint64(c) << (8 * i)
	}
	return n, api.OK
}

// shortest puts bytes of seven bits each together, up to one whose highest bit isn't set, or to the last one that may be.
func shortest(most int, step func() (byte, bool)) (uint64, api.Errno) {
	var n uint64
	for i := range most - 1 {
		c, ok := step()
		if !ok {
			return 0, api.ErrEnd
		}
		n |= uint64(c&127) << (7 * i)
		if c == 0 && i > 0 {
			return 0, api.ErrVar
		}
		if c < 128 {
			return n, api.OK
		}
	}
	c, ok := step()
	if !ok {
		return 0, api.ErrEnd
	}
	// Nothing can follow any more: all bits of this byte are the number's, and must have room in its 64.
	room := 64 - 7*(most-1)
	if c == 0 || c>>room != 0 {
		return 0, api.ErrVar
	}
	return n | uint64(c)<<(64-room), api.OK
}
