package match

import "theodolite/api"

// start is what stands at a place: fewer bytes than these are never told again.
type start [least]byte

// past is a text up to a place: where each start stands ahead of it, in order.
type past struct {
	text   []byte
	here   int
	places map[start][]int
}

// token tells what stands here: the longest that stood there already, or one byte.
func (p *past) token() api.Token {
	size, back := p.longest()
	if size < least {
		return api.Token{Byte: p.text[p.here]}
	}
	return api.Token{Len: size, Back: back}
}

// longest tells how many bytes at most stood there already, and how far back; fewer than the least, where they are too few. Places are tried from the nearest one on, and left for a longer one alone, so of several the nearest is told.
func (p *past) longest() (int, int) {
	size, back := least-1, 0
	end := min(most, len(p.text)-p.here)
	if end < least {
		return size, back
	}
	l := p.places[start(p.text[p.here:])]
	for k := len(l) - 1; k >= 0 && p.here-l[k] <= far && size < end; k-- {
		if n := p.same(l[k], size, end); n > size {
			size, back = n, p.here-l[k]
		}
	}
	return size, back
}

// same tells how many bytes from a place on are as they are from here on, up to an end; maybe 0, where they are no more than a size. The byte behind that size is looked at first: it rules most places out, without which texts of few letters would take long.
func (p *past) same(place, size, end int) int {
	if p.text[place+size] != p.text[p.here+size] {
		return 0
	}
	n := 0
	for n < end && p.text[place+n] == p.text[p.here+n] {
		n++
	}
	return n
}

// pass goes on by some places, and keeps each.
func (p *past) pass(many int) {
	for range many {
		if len(p.text)-p.here >= least {
			s := start(p.text[p.here:])
			p.places[s] = append(p.places[s], p.here)
		}
		p.here++
	}
}
