package sparse

import (
	"cmp"
	"slices"

	"theodolite/api"
)

// sorted are pairs by rising keys, each key once.
func sorted(l []api.Pair) []api.Pair {
	l = slices.Clone(l)
	slices.SortFunc(l, func(p, q api.Pair) int { return cmp.Compare(p.Key, q.Key) })
	var once []api.Pair
	for _, p := range l {
		once = behind(once, p)
	}
	return once
}

// merged are the pairs of two lists by rising keys as one of them.
func merged(l, m []api.Pair) []api.Pair {
	both := make([]api.Pair, 0, len(l)+len(m))
	for len(l)+len(m) > 0 {
		if len(l) == 0 || len(m) > 0 && m[0].Key < l[0].Key {
			l, m = m, l
		}
		both, l = behind(both, l[0]), l[1:]
	}
	return both
}

// behind puts a pair behind a list, into the last one if they have the same key.
func behind(l []api.Pair, p api.Pair) []api.Pair {
	if i := len(l) - 1; i >= 0 && l[i].Key == p.Key {
		l[i].N += p.N
		return l
	}
	return append(l, p)
}

// sum is all counts of a list together.
func sum(l []api.Pair) uint64 {
	all := uint64(0)
	for _, p := range l {
		all += p.N
	}
	return all
}
