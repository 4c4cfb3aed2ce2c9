package inflate

import (
	"theodolite/api"
	"theodolite/huff"
)

const (
	end         = 256 // the symbol that ends a block
	firstLength = 257 // the symbols of lengths
	lastLength  = 285
	lastSpan    = 29 // the last symbol of distances, the first one being 0

	leastLength = 3
	mostLength  = 258
	leastSpan   = 1
)

// Base is the least length that a symbol stands for, and how many bits say how much more it is.
func Base(symbol int) (int, int) {
	if symbol < firstLength || symbol > lastLength {
		return 0, 0
	}
	if symbol == lastLength {
		return mostLength, 0
	}
	n, c := spread(symbol-firstLength, 4)
	return leastLength + n, c
}

// Far is the least distance that a symbol stands for, and how many bits say how much more it is.
func Far(symbol int) (int, int) {
	if symbol < 0 || symbol > lastSpan {
		return 0, 0
	}
	n, c := spread(symbol, 2)
	return leastSpan + n, c
}

// spread is of the k-th symbol how many numbers the ones ahead of it stand for, and how many bits follow it, where it is one of many with so many bits; of no bits there are twice as many.
func spread(k, many int) (int, int) {
	if k < many {
		return k, 0
	}
	c := k/many - 1
	return (many + k%many) << c, c
}

// symbols reads symbols up to the one that ends a block.
func (s *stream) symbols(literals, spans *huff.Set) {
	for {
		switch symbol := s.symbol(literals); {
		case symbol < end:
			s.tell(byte(symbol))
		case symbol == end:
			return
		default:
			s.back(symbol, spans)
		}
	}
}

// back reads what belongs to a length's symbol, and tells bytes again.
func (s *stream) back(symbol int, spans *huff.Set) {
	demand(symbol <= lastLength, api.ErrCode)
	length := s.more(Base(symbol))
	span := s.symbol(spans)
	demand(span <= lastSpan, api.ErrCode)
	far := s.more(Far(span))
	demand(far <= len(s.told), api.ErrBack)
	for range length { // one by one: they may be ones that this tells
		s.tell(s.told[len(s.told)-far])
	}
}

// more reads how much more than the least a number is, by c bits, and answers it.
func (s *stream) more(least, c int) int {
	return least + s.group(c)
}
