package zlib

import (
	"theodolite/api"
	"theodolite/inflate"
)

// opening is a wrapped stream that is being opened; left is what was not gone through yet.
type opening struct{ left []byte }

// gaveUp is what an opening that can't go on is given up with.
type gaveUp struct{ why api.Errno }

// demand gives the opening up with this error, unless all is well.
func demand(well bool, e api.Errno) {
	if !well {
		panic(gaveUp{e})
	}
}

// next goes through so many bytes.
func (o *opening) next(many int) []byte {
	demand(many <= len(o.left), api.ErrEnd)
	b := o.left[:many]
	o.left = o.left[many:]
	return b
}

// head goes through the head.
func (o *opening) head() {
	demand(Head(o.next(inHead)), api.ErrHead)
}

// stream goes through the stream, and is what it tells.
func (o *opening) stream(limit int) []byte {
	text, many, e := inflate.Read(o.left, limit)
	demand(e == api.OK, e)
	o.next(many)
	return text
}

// sum goes through the sum, which has to be this one.
func (o *opening) sum(want [inSum]byte) {
	demand([inSum]byte(o.next(inSum)) == want, api.ErrSum)
}

// end asks that nothing stands behind the sum.
func (o *opening) end() {
	demand(len(o.left) == 0, api.ErrMore)
}
