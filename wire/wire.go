// Package wire is layer 1: it writes numbers as bytes by patterns, and reads them. See shared/doc/01-wire.md.
package wire

import "theodolite/api"

// mostLetters is how many letters a right pattern has at most.
const mostLetters = 64

// form says how the number that a letter stands for is written and read.
type form struct {
	letter byte
	most   int // how many bytes it has at most; letters of a fixed size always have so many
	put    func(w *writer, n uint64, most int)
	get    func(r *Reader, most int) (uint64, api.Errno)
}

// forms has the form of each letter that there is.
func forms() [10]form {
	return [10]form{
		{'b', 1, (*writer).low, (*Reader).low},
		{'h', 2, (*writer).low, (*Reader).low},
		{'H', 2, (*writer).high, (*Reader).high},
		{'w', 4, (*writer).low, (*Reader).low},
		{'W', 4, (*writer).high, (*Reader).high},
		{'q', 8, (*writer).low, (*Reader).low},
		{'Q', 8, (*writer).high, (*Reader).high},
		{'v', 10, (*writer).few, (*Reader).few},
		{'z', 10, (*writer).signed, (*Reader).signed},
		{'n', 9, (*writer).signed, (*Reader).signed},
	}
}

// formOf is the form of a letter; false, if there is no such letter.
func formOf(letter byte) (form, bool) {
	for _, f := range forms() {
		if f.letter == letter {
			return f, true
		}
	}
	return form{}, false
}

// formsOf are the forms of a pattern's letters; false, if the pattern isn't right.
func formsOf(pattern string) ([]form, bool) {
	if len(pattern) > mostLetters {
		return nil, false
	}
	l := make([]form, 0, len(pattern))
	for i := range len(pattern) {
		f, ok := formOf(pattern[i])
		if !ok {
			return nil, false
		}
		l = append(l, f)
	}
	return l, true
}

// Put writes the numbers l by the pattern, one behind the other.
func Put(pattern string, l []uint64) ([]byte, api.Errno) {
	fs, ok := formsOf(pattern)
	if !ok || len(fs) != len(l) {
		return nil, api.ErrSpec
	}
	var w writer
	for i, f := range fs {
		// Forms of more than eight bytes have room for all: what is shifted so far is 0.
		if l[i]>>(8*f.most) != 0 {
			return nil, api.ErrRange
		}
		f.put(&w, l[i], f.most)
	}
	return w.b, api.OK
}

// Get reads the numbers that b begins with by the pattern, and tells how many bytes they have.
func Get(pattern string, b []byte) ([]uint64, int, api.Errno) {
	fs, ok := formsOf(pattern)
	if !ok {
		return nil, 0, api.ErrSpec
	}
	r := &Reader{b: b} // not New: it doesn't outlive the call, so that b needs no copy
	l := make([]uint64, 0, len(fs))
	for _, f := range fs {
		n, e := f.get(r, f.most)
		if e != api.OK {
			return nil, 0, e
		}
		l = append(l, n)
	}
	return l, r.at, api.OK
}

// Sign is a number with a sign as one without: 2n, or -2n - 1 of one below 0.
func Sign(n int64) uint64 {
	return uint64(n)<<1 ^ uint64(n>>63)
}

// Unsign is the number that Sign has made n of.
func Unsign(n uint64) int64 {
	return int64(n>>1) ^ -int64(n&1)
}
