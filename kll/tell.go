package kll

import (
	"cmp"
	"slices"

	"theodolite/api"
	"theodolite/rank"
	"theodolite/wide"
)

// Total is the weight of all values together.
func (s *Stack) Total() uint64 { return s.total }

// Ledger is how far ranks may be off.
func (s *Stack) Ledger() uint64 { return s.ledger }

// Levels are the values of all levels, each by size.
func (s *Stack) Levels() [][]int64 {
	var o [][]int64
	for _, l := range s.levels {
		o = append(o, slices.Clone(l))
	}
	return o
}

// Kept is how many values all levels have.
func (s *Stack) Kept() int {
	many := 0
	for _, l := range s.levels {
		many += len(l)
	}
	return many
}

// At is the value of a part's rank among all that are kept, and the ledger.
func (s *Stack) At(num, den uint64) (int64, uint64, api.Errno) {
	at, e := rank.Rank(num, den, s.total)
	if e != api.OK {
		return 0, 0, e
	}
	l := s.terms()
	slices.SortFunc(l, func(a, b wide.Term) int { return cmp.Compare(a.V, b.V) })
	i := 0
	for at > l[i].N { // all weights together are the total: it ends
		at -= l[i].N
		i++
	}
	return l[i].V, s.ledger, api.OK
}

// Between is the weight of all values that are less than v, and of all that aren't greater.
func (s *Stack) Between(v int64) (uint64, uint64) {
	var less, upto uint64
	for _, t := range s.terms() {
		if t.V < v {
			less += t.N
		}
		if t.V <= v {
			upto += t.N
		}
	}
	return less, upto
}

// Mean is the floor of the mean of all values that are kept.
func (s *Stack) Mean() (int64, api.Errno) {
	v, e := wide.Mean(s.terms())
	if e != api.OK {
		return 0, api.ErrEmpty // all weights together have room: there is none
	}
	return v, api.OK
}

// terms are all values that are kept, with their weights, level by level.
func (s *Stack) terms() []wide.Term {
	o := make([]wide.Term, 0, s.Kept())
	for h, l := range s.levels {
		for _, v := range l {
			o = append(o, wide.Term{V: v, N: 1 << h})
		}
	}
	return o
}
