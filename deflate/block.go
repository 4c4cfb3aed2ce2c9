package deflate

import (
	"theodolite/api"
	"theodolite/bitio"
	"theodolite/huff"
)

// Kinds of blocks.
const (
	kindStored = 0
	kindFixed  = 1
)

// head writes what a block begins with.
func head(w *bitio.Writer, kind uint32, last bool) {
	var bit uint32
	if last {
		bit = 1
	}
	w.Group(bit, 1)
	w.Group(kind, 2)
}

// block is a fixed one that is being written.
type block struct {
	bits            bitio.Writer
	literals, spans *huff.Set
}

// newBlock begins one, the last one of its stream.
func newBlock() *block {
	x := &block{}
	x.makeCodes()
	head(&x.bits, kindFixed, true)
	return x
}

// makeCodes makes the fixed codes, which always can be made.
func (x *block) makeCodes() {
	x.literals, _ = huff.Make(huff.Fixed())
	x.spans, _ = huff.Make(huff.Spans())
}

// token writes what a token says.
func (x *block) token(t api.Token) {
	if t.Back == 0 {
		x.literals.Write(&x.bits, int(t.Byte))
		return
	}
	x.number(t.Len, Length, x.literals.Write)
	x.number(t.Back, Span, x.spans.Write)
}

// number writes n: its symbol, as it is sought, by a code, and what it is more as a group.
func (x *block) number(n int, seek func(n int) (symbol, bits, rest int), write func(w *bitio.Writer, symbol int) api.Errno) {
	symbol, c, rest := seek(n)
	write(&x.bits, symbol)
	x.bits.Group(uint32(rest), c)
}

// close ends the block, and tells its bytes.
func (x *block) close() []byte {
	x.literals.Write(&x.bits, end)
	return x.bits.Bytes()
}
