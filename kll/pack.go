package kll

import "slices"

// leastRoom is what each level has room for.
const leastRoom = 2

// Room is how many values the level h has room for; 0 of one that there isn't.
func (s *Stack) Room(h int) int {
	if h < 0 || h >= len(s.levels) {
		return 0
	}
	return s.rooms()[h]
}

// rooms are how many values each level has room for: the higher it is, the more.
func (s *Stack) rooms() []int {
	l, c := make([]int, len(s.levels)), s.size
	for h := range slices.Backward(l) {
		l[h] = max(c, leastRoom)
		c = (2*c + 2) / 3 // two thirds, or the next whole number
	}
	return l
}

// crowded is the least level that has more values than it has room for; -1, if there is none.
func (s *Stack) crowded() int {
	for h, room := range s.rooms() {
		if len(s.levels[h]) > room {
			return h
		}
	}
	return -1
}

// pack makes room wherever a level has none; each time a coin is tossed.
func (s *Stack) pack(toss func() int) {
	for h := s.crowded(); h >= 0; h = s.crowded() {
		s.halve(h, toss())
	}
}

// halve has of each two values of a level the coin's one go up, where it stands for both.
func (s *Stack) halve(h, coin int) {
	l := s.levels[h]
	even := len(l) - len(l)%2
	var up []int64
	for i := coin; i < even; i += 2 {
		up = append(up, l[i])
	}
	s.levels[h] = slices.Clone(l[even:]) // the odd one, without the room of all
	s.put(h+1, up...)
	s.owe(1 << h)
}

// owe puts so much to the ledger.
func (s *Stack) owe(n uint64) { s.ledger = min(s.ledger+n, mostLedger) }

// put puts values, which stand by size, to a level; with those below it comes to be, if there was none.
func (s *Stack) put(h int, l ...int64) {
	for len(s.levels) <= h {
		s.levels = append(s.levels, nil)
	}
	s.levels[h] = merged(s.levels[h], l)
}

// merged is two lists by size as one, which shares memory with neither.
func merged(a, b []int64) []int64 {
	l := make([]int64, 0, len(a)+len(b))
	for _, v := range b {
		i, _ := slices.BinarySearch(a, v)
		l = append(append(l, a[:i]...), v)
		a = a[i:]
	}
	return append(l, a...)
}
