package deflate

import (
	"sort"

	"theodolite/inflate"
)

const (
	end         = 256 // the symbol that ends a block
	firstLength = 257 // the symbols of lengths
	lastLength  = 285
	lastSpan    = 29 // the last symbol of distances, the first one being 0

	leastLength = 3
	mostLength  = 258
	mostSpan    = 32768
)

// Length is the symbol of a length, how many bits follow it, and what they say.
func Length(n int) (int, int, int) {
	if n < leastLength || n > mostLength {
		return 0, 0, 0
	}
	return sought(n, firstLength, lastLength, inflate.Base)
}

// Span is the symbol of a distance, how many bits follow it, and what they say; the symbol -1, if there is none.
func Span(n int) (int, int, int) {
	if n < 1 || n > mostSpan {
		return -1, 0, 0
	}
	return sought(n, 0, lastSpan, inflate.Far)
}

// sought is the greatest one of the symbols from first to last whose least number isn't above n, how many bits follow it, and what n is more. The least numbers rise with the symbols.
func sought(n, first, last int, stands func(symbol int) (least, bits int)) (int, int, int) {
	above := sort.Search(last-first, func(k int) bool {
		least, _ := stands(first + 1 + k)
		return least > n
	})
	symbol := first + above
	least, c := stands(symbol)
	return symbol, c, n - least
}
