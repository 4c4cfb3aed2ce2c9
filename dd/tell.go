package dd

import (
	"theodolite/api"
	"theodolite/rank"
)

// Total is all that is counted.
func (s *Sketch) Total() uint64 { return s.kept.Total() }

// Pairs are all keys that are kept, rising, and their counts.
func (s *Sketch) Pairs() []api.Pair { return s.kept.Pairs() }

// Folded is how much was counted of keys that are less than the least one that is kept.
func (s *Sketch) Folded() uint64 { return s.kept.Folded() }

// At is what stands for the thing of a part's rank, and whether that is vague.
func (s *Sketch) At(num, den uint64) (int64, bool, api.Errno) {
	return s.tell(num, den, s.ranges.Mid)
}

// Between is how many things are kept with a lesser key than v's, and how many with no greater one.
func (s *Sketch) Between(v int64) (uint64, uint64, api.Errno) {
	k, e := s.ranges.Key(v)
	if e != api.OK {
		return 0, 0, e
	}
	return s.kept.Below(k), s.kept.Upto(k), api.OK
}

// Ends are the least and the greatest number of the ranges that are kept.
func (s *Sketch) Ends() (int64, int64, api.Errno) {
	low, _, e := s.tell(0, 1, s.ranges.Low)
	high, _, _ := s.tell(1, 1, s.ranges.High) // both or none are refused
	return low, high, e
}

// tell is the number that a key becomes, that of the thing of a part's rank, and whether the key is vague.
func (s *Sketch) tell(num, den uint64, number func(k int) (int64, api.Errno)) (int64, bool, api.Errno) {
	r, e := rank.Rank(num, den, s.kept.Total())
	if e != api.OK {
		return 0, false, e
	}
	k, vague, _ := s.kept.Key(r) // a rank names a thing, and a key that is kept is the scale's: there is no error
	v, _ := number(k)
	return v, vague, api.OK
}
