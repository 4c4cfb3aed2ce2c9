package collapse

import (
	"theodolite/api"
	"theodolite/sparse"
)

// Load is the store that keeps these pairs, with so much folded.
func Load(m int, l []api.Pair, folded uint64) (*Store, api.Errno) {
	s, e := New(m)
	if e != api.OK || len(l) > m || !rising(l) {
		return nil, api.ErrArg
	}
	list, e := sparse.Of(l)
	if e != api.OK {
		return nil, api.ErrArg
	}
	s.list = *list
	if folded == 0 {
		return s, api.OK
	}
	if len(l) < m || !hides(l[0], folded) {
		return nil, api.ErrArg
	}
	s.fold = fold{l[0].Key, folded}
	return s, api.OK
}

// rising is whether each key is above the one ahead.
func rising(l []api.Pair) bool {
	for i := 1; i < len(l); i++ {
		if l[i-1].Key >= l[i].Key {
			return false
		}
	}
	return true
}

// hides is whether a least pair may have so much of lesser keys in it: its own key was counted, too, and there are lesser ones that may be.
func hides(least api.Pair, folded uint64) bool {
	return least.N > folded && least.Key > -api.MaxKey
}
