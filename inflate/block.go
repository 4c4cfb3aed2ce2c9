package inflate

import (
	"bytes"

	"theodolite/api"
	"theodolite/huff"
)

// What the lengths' code has beside the lengths themselves.
const (
	again     = 16 // the length ahead, some times
	zeros     = 17 // some zeros
	manyZeros = 18
	lengthSet = 19 // how many symbols it has
)

// kinds has of each kind of block how it is read.
func kinds() [4]func(s *stream) {
	return [4]func(s *stream){(*stream).stored, (*stream).fixed, (*stream).described, (*stream).none}
}

// block reads a block, and answers whether it is the last one.
func (s *stream) block() bool {
	last := s.group(1) == 1
	kinds()[s.group(2)](s)
	return last
}

// stored reads bytes that stand there as they are.
func (s *stream) stored() {
	s.bits.Align()
	count, contrary := s.group(16), s.group(16)
	demand(count^contrary == 1<<16-1, api.ErrStored)
	s.room(count) // ahead of the bytes: whether they are all there matters less
	s.tell(got(s.bits.Text(count))...)
}

// fixed reads symbols by the fixed codes. These are made once: there may be very many blocks of few bits.
func (s *stream) fixed() {
	if s.literals == nil {
		s.literals, s.spans = got(huff.Make(huff.Fixed())), got(huff.Make(huff.Spans()))
	}
	s.symbols(s.literals, s.spans)
}

// described reads codes, and symbols by them.
func (s *stream) described() {
	literals, spans, short := 257+s.group(5), 1+s.group(5), 4+s.group(4)
	demand(literals <= lastLength+1 && spans <= lastSpan+1, api.ErrCode)
	l := s.lengths(s.lengthsCode(short), literals+spans)
	demand(l[end] > 0, api.ErrCode)
	s.symbols(got(huff.Make(l[:literals])), got(huff.Make(l[literals:])))
}

// none is no kind.
func (s *stream) none() {
	demand(false, api.ErrBlock)
}

// lengthsCode reads the code that lengths are written by, of which so many symbols' lengths are there.
func (s *stream) lengthsCode(many int) *huff.Set {
	order := [lengthSet]int{again, zeros, manyZeros, 0, 8, 7, 9, 6, 10, 5, 11, 4, 12, 3, 13, 2, 14, 1, 15}
	var l [lengthSet]byte
	for _, symbol := range order[:many] {
		l[symbol] = byte(s.group(3))
	}
	codes := got(huff.Make(l[:]))
	demand(codes.Full(), api.ErrCode)
	return codes
}

// lengths reads so many lengths by their code.
func (s *stream) lengths(codes *huff.Set, many int) []byte {
	l := make([]byte, 0, many)
	for len(l) < many {
		length, times := s.run(codes, l)
		demand(times <= many-len(l), api.ErrCode)
		l = append(l, bytes.Repeat([]byte{length}, times)...)
	}
	return l
}

// run reads a length, and how many times it comes behind those ahead.
func (s *stream) run(codes *huff.Set, ahead []byte) (byte, int) {
	switch symbol := s.symbol(codes); symbol {
	case again:
		demand(len(ahead) > 0, api.ErrCode)
		return ahead[len(ahead)-1], 3 + s.group(2)
	case zeros:
		return 0, 3 + s.group(3)
	case manyZeros:
		return 0, 11 + s.group(7)
	default:
		return byte(symbol), 1
	}
}
