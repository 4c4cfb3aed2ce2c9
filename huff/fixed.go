package huff

import "bytes"

const (
	literals  = 288 // of the fixed literals' code
	distances = 32  // of the fixed distances' code
)

// Fixed is the lengths of the fixed literals' code of RFC 1951.
func Fixed() []byte {
	l := make([]byte, literals)
	for symbol := range l {
		l[symbol] = fixed(symbol)
	}
	return l
}

// Spans is the lengths of the fixed distances' code of RFC 1951.
func Spans() []byte {
	return bytes.Repeat([]byte{5}, distances)
}

// fixed is the length of a symbol's fixed code.
func fixed(symbol int) byte {
	switch {
	case symbol <= 143:
		return 8
	case symbol <= 255:
		return 9
	case symbol <= 279:
		return 7
	}
	return 8
}
