package tdwire

import (
	"theodolite/api"
	"theodolite/digest"
	"theodolite/wire"
)

// gaveUp is what a reading that can't go on is given up with.
type gaveUp struct{}

// demand gives the reading up, unless all is well.
func demand(well bool) {
	if !well {
		panic(gaveUp{})
	}
}

// Read is the digest whose bytes b is.
func Read(b []byte) (x *digest.Digest, e api.Errno) {
	defer func() {
		switch p := recover().(type) {
		case nil:
		case gaveUp:
			e = api.ErrBytes // and x is nil still: nothing was told
		default:
			panic(p)
		}
	}()
	return source{wire.New(b)}.digest(), api.OK
}

// source is where the numbers of a digest come from, one behind the other.
type source struct{ r *wire.Reader }

// digest is the digest of which there are all bytes, and no others.
func (s source) digest() *digest.Digest {
	fineness, least, most := s.fineness(), s.signed(), s.signed()
	list, waits := s.means(s.above), s.means(s.free)
	demand(s.r.Left() == 0)
	x, e := digest.Load(fineness, least, most, list, waits)
	demand(e == api.OK)
	return x
}

// means are as many means as are told ahead of them; how each number but the first is read, by the one ahead, is handed on.
func (s source) means(other func(ahead int64) int64) []api.Mean {
	var l []api.Mean // without room for many at once: far fewer may come
	number, v := s.free, int64(0)
	for range s.plain() {
		v = number(v)
		l = append(l, api.Mean{V: v, N: s.plain()})
		number = other
	}
	return l
}

// free is a number that is told by itself, whatever is ahead.
func (s source) free(int64) int64 { return s.signed() }

// above is a number that is told from the one ahead on. Beyond the greatest one it goes round to a lesser one than that ahead, and no digest lists such.
func (s source) above(ahead int64) int64 { return ahead + int64(s.plain()) }

// fineness is a number that may be one: what is greater than that an int need not have room for.
func (s source) fineness() int {
	n := s.plain()
	demand(n <= api.MaxDelta)
	return int(n)
}

// signed is any number with a sign.
func (s source) signed() int64 { return int64(s.number(signed)) }

// plain is any number without a sign.
func (s source) plain() uint64 { return s.number(plain) }

// number is the next number by a letter.
func (s source) number(letter string) uint64 {
	n, e := s.r.Next(letter[0])
	demand(e == api.OK)
	return n
}
