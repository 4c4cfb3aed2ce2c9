package ddwire

import (
	"theodolite/api"
	"theodolite/dd"
	"theodolite/wire"
)

// gaveUp is what a reading that can't go on is given up with.
type gaveUp struct{}

// demand gives the reading up, unless all is well.
func demand(well bool) {
	if !well {
		panic(gaveUp{})
	}
}

// told is what a reading of b tells, or that it was given up.
func told[T any](b []byte, read func(s source) T) (t T, e api.Errno) {
	defer func() {
		switch p := recover().(type) {
		case nil:
		case gaveUp:
			e = api.ErrBytes // and t is what it began as: read told nothing
		default:
			panic(p)
		}
	}()
	return read(source{wire.New(b)}), api.OK
}

// head is what a sketch's bytes begin with.
type head struct{ accuracy, budget int }

// source is where the numbers of a sketch come from, one behind the other.
type source struct{ r *wire.Reader }

// sketch is the sketch of which there are all bytes, and no others.
func (s source) sketch() *dd.Sketch {
	h, many, folded := s.head(), s.small(), s.count()
	l := s.pairs(many)
	demand(s.r.Left() == 0)
	x, e := dd.Load(h.accuracy, h.budget, l, folded)
	demand(e == api.OK)
	return x
}

// peeked is a head that may be a sketch's.
func (s source) peeked() head {
	h := s.head()
	_, e := dd.New(h.accuracy, h.budget)
	demand(e == api.OK)
	return h
}

// head is what stands ahead of all else.
func (s source) head() head { return head{s.small(), s.small()} }

// pairs are so many pairs: the first key is told from 0 on, each other one from behind the one ahead.
func (s source) pairs(many int) []api.Pair {
	var l []api.Pair // without room for many at once: far fewer may come
	step, from := s.signed, 0
	for range many {
		key := from + step()
		l = append(l, api.Pair{Key: key, N: s.count()})
		step, from = s.small, key+1
	}
	return l
}

// small is a number without a sign that is no greater than keys can be apart: what is greater is none of a sketch's but its counts, and an int need not have room for it.
func (s source) small() int {
	n := s.count()
	demand(n <= 2*api.MaxKey)
	return int(n)
}

// signed is a number with a sign that may be a key.
func (s source) signed() int {
	n := int64(s.number(signed))
	demand(-api.MaxKey <= n && n <= api.MaxKey)
	return int(n)
}

// count is any number without a sign.
func (s source) count() uint64 { return s.number(plain) }

// number is the next number by a letter.
func (s source) number(letter string) uint64 {
	n, e := s.r.Next(letter[0])
	demand(e == api.OK)
	return n
}
