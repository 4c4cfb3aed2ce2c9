package huff

import (
	"theodolite/api"
	"theodolite/bitio"
)

// Write writes a symbol's code.
func (s *Set) Write(w *bitio.Writer, symbol int) api.Errno {
	length := s.Length(symbol)
	if w == nil || length == 0 {
		return api.ErrArg
	}
	return w.Code(s.codes[symbol], length)
}

// Read reads the symbol whose code comes next, of this no more bits than it has; what was read ahead of an error is read.
func (s *Set) Read(r *bitio.Reader) (int, api.Errno) {
	if r == nil {
		return 0, api.ErrArg
	}
	return s.find(r.Bit)
}

// find asks for bits, till they are a code: those of a length are one behind the other, so a number tells which one it is.
func (s *Set) find(bit func() (uint32, api.Errno)) (int, api.Errno) {
	var code uint32
	for _, x := range s.shelves[1 : s.end+1] {
		b, e := bit()
		if e != api.OK {
			return 0, e
		}
		code = code<<1 | b
		if k := int(code - x.first); k < x.many {
			return s.order[x.ahead+k], api.OK
		}
	}
	return 0, api.ErrCode // no code is longer: the set is lone or bare
}
